/-
  What New, Len, Room and takePlace do, each as a contract, of nil too. Conditions: the queue lies where it is said to lie.
-/
import Derived.Test.YtcndgcfdopjjfaaMem
import Derived.Deep.CutRange
import Derived.Deep.CutBlock
namespace Go.Proofs.Ytcndgcfdopjjfaa
open Go.ChangeShapes Go.WideShapes Go.ChangeAt Go.RowKit

theorem len_nil (w : World) : Calls Try.prog 25 #[.pointer none] w fun e w' => e = .returned (.int .i64 0) ∧ w' = w := by
  go_enter Try.func25, Try.ntmps25
  go_wp2
  go_ret
  exact ⟨rfl, rfl⟩
theorem room_nil (w : World) : Calls Try.prog 26 #[.pointer none] w fun e w' => e = .returned (.int .i64 0) ∧ w' = w := by
  go_enter Try.func26, Try.ntmps26
  go_wp2
  go_ret
  exact ⟨rfl, rfl⟩

theorem len_w (w : World) (A : Nat → Prop) (g R : Nat) (L : List Wt) (h : QAt w A g R L) :
    Calls Try.prog 25 #[.pointer (some ⟨g, 0, none⟩)] w fun e w' => e = .returned (.int .i64 L.length) ∧ w' = w := by
  obtain ⟨a, cap, c, s, r, l, hb, _⟩ := h.q.ex
  obtain ⟨c0, c1, hl⟩ := blk2 hb
  clear hb h
  go_enter Try.func25, Try.ntmps25
  go_wp2
  go_ret
  exact ⟨rfl, rfl⟩

theorem room_w (w : World) (A : Nat → Prop) (g R : Nat) (L : List Wt) (h : QAt w A g R L) :
    Calls Try.prog 26 #[.pointer (some ⟨g, 0, none⟩)] w fun e w' => e = .returned (.int .i64 ((R - L.length : Nat) : Int)) ∧ w' = w := by
  have hle := h.le
  obtain ⟨a, cap, c, s, r, l, hb, hc, _⟩ := h.q.ex
  obtain ⟨c0, c1, hl⟩ := blk2 hb
  have hlen := fun ty => Conc.run_len_chan (P := Try.prog) 59 ty Try.underlying59 hc
  rw [Array.size_replicate] at hlen
  clear hb h hc
  go_enter Try.func26, Try.ntmps26
  go_wp2
  go_ret
  exact ⟨rfl, rfl⟩

set_option maxRecDepth 100000 in
theorem takePlace_some (w : World) (A : Nat → Prop) (g R m : Nat) (L : List Wt) (h : QIn w A g R (m + 1) L) :
    Calls Try.prog 30 #[.pointer (some ⟨g, 0, none⟩)] w fun e w' => e = .returned (.bool true) ∧ QIn w' A g R m L ∧ Keep A w w' ∧ w'.heap.size = w.heap.size := by
  obtain ⟨a, cap, c, s, r, l, hb, hc, hcA, hr, h1, h2⟩ := h.ex
  obtain ⟨c0, c1, hl⟩ := blk2 hb
  have HP : Hid (QIn (w.setChan c R (Array.replicate m tok) false s (r + 1) false) A g R m L ∧ Keep A w (w.setChan c R (Array.replicate m tok) false s (r + 1) false)) :=
    ⟨h.chan hb hc hcA hr h1 h2 _ _ _, (Keep.refl A w).setChan hcA _ _ _ _ _ _⟩
  clear hb h hr h1 h2
  go_enter Try.func30, Try.ntmps30
  go_upto_region 2 with fail
  refine wp_of_reg (fun b k cs => ?_)
  refine Reg.sel_recv (c := c) (z := tok) (w₁ := w) rfl rfl (by simp [go_sem, execOp, Conc.rcase, Act.eval, tok]) hc (by simp) ?_
  rw [rep_extract]
  refine Reg.op rfl rfl (fun K hK => ?_)
  go_simp
  refine hK _ _ ?_
  clear hK K
  refine Reg.op rfl rfl (fun K hK => ?_)
  go_simp
  refine hK _ _ ?_
  clear hK K
  refine Reg.done ?_
  go_wp2
  go_ret
  exact ⟨rfl, HP.out.1, HP.out.2, Conc.size_setChan _ _ _ _ _ _ _ _⟩

set_option maxRecDepth 100000 in
theorem takePlace_none (w : World) (A : Nat → Prop) (g R : Nat) (L : List Wt) (h : QIn w A g R 0 L) :
    Calls Try.prog 30 #[.pointer (some ⟨g, 0, none⟩)] w fun e w' => e = .returned (.bool false) ∧ w' = w := by
  obtain ⟨a, cap, c, s, r, l, hb, hc, hcA, hr, h1, h2⟩ := h.ex
  obtain ⟨c0, c1, hl⟩ := blk2 hb
  rw [Array.replicate_zero] at hc
  clear hb h hr h1 h2
  go_enter Try.func30, Try.ntmps30
  go_upto_region 2 with fail
  refine wp_of_reg (fun b k cs => ?_)
  refine Reg.sel_none (c := c) (z := tok) (w₁ := w) rfl rfl (by simp [go_sem, execOp, Conc.rcase, Act.eval, tok]) hc ?_
  refine Reg.op rfl rfl (fun K hK => ?_)
  go_simp
  refine hK _ _ ?_
  clear hK K
  refine Reg.op rfl rfl (fun K hK => ?_)
  go_simp
  refine hK _ _ ?_
  clear hK K
  refine Reg.done ?_
  go_wp2
  go_ret
  exact ⟨rfl, rfl⟩

/-- The room that a queue has that is asked for so much. -/
def roomN (n : Int) : Nat := (min (max n 0) 16).toNat
theorem roomN_le (n : Int) : roomN n ≤ 16 := by unfold roomN; omega
theorem roomN_eq (n : Int) : ((roomN n : Nat) : Int) = min (max n 0) 16 := by unfold roomN; omega

theorem info64 : (Try.prog.info? 64).map (fun i => (i.zero, i.size, i.bytes)) = some (some tok, 0, 0) := by kernel_rfl

theorem mk_chan (w : World) (R : Nat) (hR : R ≤ 16) : (Instr.makeChan 59 (.int .i64 R)).run Try.prog w = .ok (.chan (some w.heap.size)) (w.alloc (.chan R #[] false 0 0 false)) := by
  obtain ⟨i, hi, _, _, hz⟩ := info_parts info64
  exact Conc.run_makeChan Try.underlying59 hi .i64 R (by omega) (by rw [hz]; omega)

set_option maxRecDepth 100000 in
theorem new_any (n : Int) (w : World) :
    Calls Try.prog 9 #[.int .i64 n] w fun e w' => e = .returned (.pointer (some ⟨w.heap.size + 1, 0, none⟩)) ∧ QAt w' (fun k => k < w.heap.size) (w.heap.size + 1) (roomN n) [] ∧ Below w.heap.size w w' ∧ w'.heap.size = w.heap.size + 2 := by
  have hR := roomN_le n
  have hmk := mk_chan w (roomN n) hR
  have he := roomN_eq n
  go_enter Try.func9, Try.ntmps9
  go_upto_region 1 with fail
  go_cut [0] from 4 to 6 (fun v wx => v = .int .i64 (roomN n : Nat) ∧ wx = w)
  case first =>
    by_cases h0 : n < 0
    · have e1 : ((roomN n : Nat) : Int) = 0 := by omega
      go_wp2_with fail
      all_goals (go_meet; exact ⟨by rw [e1], rfl⟩)
    · by_cases h1 : n ≤ 16
      · have e1 : ((roomN n : Nat) : Int) = n := by omega
        go_wp2_with fail
        all_goals (go_meet; exact ⟨by rw [e1], rfl⟩)
      · have e1 : ((roomN n : Nat) : Int) = 16 := by omega
        go_wp2_with fail
        all_goals (go_meet; exact ⟨by rw [e1], rfl⟩)
  case rest =>
    obtain ⟨rfl, rfl⟩ := hcut
    clear he
    generalize hRR : roomN n = R at *
    go_wp2
    go_loopw [12] (fun vi wr => ∃ i : Nat, vi = .int .i64 i ∧ i ≤ R ∧ wr.heap[wc.heap.size]? = some (.chan R (Array.replicate i tok) false i 0 false) ∧ wr.heap[wc.heap.size + 1]? = some (.cells #[.slice none 0 0, .chan (some wc.heap.size)] 62 (0, 0)) ∧ Below wc.heap.size wc wr ∧ wr.heap.size = wc.heap.size + 2) (fun vi _ => R + 1 - (intOf vi).toNat)
    case atStart =>
      refine ⟨0, rfl, Nat.zero_le _, ?_, ?_, ?_, by simp⟩
      · rw [Below.heap_alloc _ _ _ (by simp)]
        exact heap_alloc_new wc _
      · have := heap_alloc_new (wc.alloc (.chan R #[] false 0 0 false)) (.cells #[.slice none 0 0, .chan (some wc.heap.size)] 62)
        simpa only [World.size_alloc] using this
      · exact ((Below.refl _ _).alloc (Nat.le_refl _) _).alloc (by simp) _
    case round =>
      obtain ⟨i, rfl, hi, hc, hg, hbl, hsz⟩ := hrel
      obtain ⟨c0, c1, hlt⟩ := blk2 hg
      by_cases hir : i < R
      · go_upto_region 5 with fail
        refine wp_of_reg (fun b k cs => ?_)
        refine Reg.op rfl rfl (fun K hK => ?_)
        go_simp
        refine hK _ _ ?_
        clear hK K
        refine Reg.op rfl rfl (fun K hK => ?_)
        go_simp
        refine hK _ _ ?_
        clear hK K
        refine Reg.op rfl rfl (fun K hK => ?_)
        go_simp
        refine hK _ _ ?_
        clear hK K
        refine Reg.op rfl rfl (fun K hK => ?_)
        go_simp
        refine hK _ _ ?_
        clear hK K
        refine Reg.op rfl rfl (fun K hK => ?_)
        go_simp
        refine hK _ _ ?_
        clear hK K
        refine Reg.send (c := wc.heap.size) (v := tok) (z := .tuple #[]) (w₁ := wr) rfl rfl (by simp [go_sem, execOp, Conc.scase, Act.eval, tok]) hc (by simpa using hir) ?_
        rw [rep_push]
        refine Reg.done ?_
        have hcl : wc.heap.size < wr.heap.size := by omega
        go_wp2
        refine ⟨⟨i + 1, by simp, hir, Conc.heap_setChan _ _ _ _ _ _ _ _ hcl, ?_, Conc.below_setChan hbl (Nat.le_refl _) _ _ _ _ _ _, ?_⟩, by simp [intOf]; omega⟩
        · rw [setChan_other _ _ _ _ _ _ _ _ _ (by omega)]; exact hg
        · rw [Conc.size_setChan]; exact hsz
      · obtain rfl : R = i := by omega
        subst hRR
        go_wp2
        go_ret
        refine ⟨rfl, ⟨⟨⟨none, 0, wc.heap.size, _, 0, [], hg, hc, Nat.lt_irrefl _, RIn.nil _ _, Nat.le_refl _, rfl⟩, by omega, fun k hk => by omega⟩, Nat.zero_le _, hR⟩, hbl, hsz⟩


theorem peek_nil (w : World) : Calls Try.prog 24 #[.pointer none] w fun e w' => e = .returned (.tuple #[.int .i64 0, .bool false]) ∧ w' = w := by
  go_enter Try.func24, Try.ntmps24
  go_wp2_with (first | (go_at_call 25; refine (len_nil _).mono ?_; rintro e w' ⟨rfl, hw'⟩; subst w'))
  go_ret2
  exact ⟨rfl, rfl⟩

/-- Where the row lies, if one waits. -/
theorem QIn.row {w : World} {A : Nat → Prop} {g R m : Nat} {L : List Wt} (h : QIn w A g R m L) {a : Option Addr} {cap : Nat} (hc0 : w.cell? ⟨g, 0, none⟩ = some (.slice a L.length cap)) (h0 : 0 < L.length) :
    ∃ b, a = some ⟨b, 0, none⟩ ∧ L.length ≤ cap ∧ cap ≤ maxLen ∧ ∀ i, i < L.length → w.cell? ⟨b, i * 2, none⟩ = some (.int .i64 (nthW L i).1) ∧ w.cell? ⟨b, i * 2 + 1, none⟩ = some (.int .i64 (nthW L i).2) := by
  obtain ⟨a', cap', c, s, r, l, hb, hc, hcA, hr, h1, h2⟩ := h.ex
  obtain ⟨c0, c1, hl⟩ := blk2 hb
  rw [c0] at hc0
  simp at hc0
  obtain ⟨rfl, rfl⟩ := hc0
  obtain ⟨r1, r2, ⟨_, r3⟩ | ⟨b, r3, _, r4⟩⟩ := hr
  · omega
  · refine ⟨b, r3, h1, r2, fun i hi => ?_⟩
    have e1 : nthW L i = nthW l i := by
      conv => lhs; rw [← h2]
      exact nthW_take hi
    rw [e1]
    exact row_cells r4 (by omega)

theorem QIn.c0 {w : World} {A : Nat → Prop} {g R m : Nat} {L : List Wt} (h : QIn w A g R m L) : ∃ a cap, w.cell? ⟨g, 0, none⟩ = some (.slice a L.length cap) := by
  obtain ⟨a, cap, c, s, r, l, hb, _⟩ := h.ex
  exact ⟨a, cap, (blk2 hb).1⟩

theorem peek_w (w : World) (A : Nat → Prop) (g R : Nat) (L : List Wt) (h : QAt w A g R L) :
    Calls Try.prog 24 #[.pointer (some ⟨g, 0, none⟩)] w fun e w' => e = .returned (.tuple #[.int .i64 (nthW L 0).1, .bool (decide (0 < L.length))]) ∧ w' = w := by
  have hlen := len_w w A g R L h
  by_cases h0 : 0 < L.length
  · obtain ⟨a, cap, c0⟩ := h.q.c0
    obtain ⟨b, rfl, hle, hcp, hcell⟩ := h.q.row c0 h0
    have hc := (hcell 0 h0).1
    rw [Nat.zero_mul] at hc
    rw [decide_eq_true h0]
    have hle16 := h.le
    have hm := h.max
    obtain ⟨n, hn⟩ : ∃ n, L.length = n + 1 := ⟨L.length - 1, by omega⟩
    rw [hn] at hlen c0 hle
    have hne : (((n + 1 : Nat) : Int) == 0) = false := by rw [beq_eq_false_iff_ne]; omega
    unfold maxLen at hcp
    clear hcell h hn h0
    go_enter Try.func24, Try.ntmps24
    go_wp2_with (first | (go_at_call 25; refine hlen.mono ?_; rintro e w' ⟨rfl, hw'⟩; subst w'))
    go_ret2
    exact ⟨rfl, rfl⟩
  · obtain rfl : L = [] := List.length_eq_zero_iff.1 (by omega)
    go_enter Try.func24, Try.ntmps24
    go_wp2_with (first | (go_at_call 25; refine hlen.mono ?_; rintro e w' ⟨rfl, hw'⟩; subst w'))
    go_ret2
    exact ⟨rfl, rfl⟩

theorem place_nil (x : Int) (w : World) : Calls Try.prog 28 #[.pointer none, .int .i64 x] w fun e w' => e = .returned (.int .i64 (-1)) ∧ w' = w := by
  go_enter Try.func28, Try.ntmps28
  go_wp2_with (first | (go_at_call 25; refine (len_nil _).mono ?_; rintro e w' ⟨rfl, hw'⟩; subst w'))
  go_loopw [8] (fun vi wr => vi = .int .i64 0 ∧ wr = w) (fun _ _ => 0)
  case atStart => exact ⟨rfl, rfl⟩
  case round =>
    obtain ⟨rfl, rfl⟩ := hrel
    go_wp2
    go_ret
    exact ⟨rfl, rfl⟩

set_option maxRecDepth 100000 in
theorem place_w (w : World) (A : Nat → Prop) (g R : Nat) (L : List Wt) (x : Int) (h : QAt w A g R L) :
    Calls Try.prog 28 #[.pointer (some ⟨g, 0, none⟩), .int .i64 x] w fun e w' => e = .returned (.int .i64 (plc x (L.map Prod.fst))) ∧ w' = w := by
  have hlen := len_w w A g R L h
  have hle16 := h.le
  have hm := h.max
  obtain ⟨a, cap, c0⟩ := h.q.c0
  have HR : Hid (0 < L.length → ∃ b, a = some ⟨b, 0, none⟩ ∧ L.length ≤ cap ∧ cap ≤ maxLen ∧ ∀ i, i < L.length → w.cell? ⟨b, i * 2, none⟩ = some (.int .i64 (nthW L i).1) ∧ w.cell? ⟨b, i * 2 + 1, none⟩ = some (.int .i64 (nthW L i).2)) := fun h0 => h.q.row c0 h0
  have hN := fidx_le x (L.map Prod.fst)
  have HN : Hid (∀ j, j < fidx x (L.map Prod.fst) → (L.map Prod.fst).getD j 0 ≠ x) := fidx_lt x _
  have HA : Hid (fidx x (L.map Prod.fst) < (L.map Prod.fst).length → (L.map Prod.fst).getD (fidx x (L.map Prod.fst)) 0 = x) := fidx_at x _
  unfold plc
  rw [List.length_map] at hN HA ⊢
  generalize fidx x (L.map Prod.fst) = N at *
  have hL : L.length ≤ 16 := by omega
  generalize hn : L.length = n at *
  clear h hle16 hm
  go_enter Try.func28, Try.ntmps28
  go_wp2_with (first | (go_at_call 25; refine hlen.mono ?_; rintro e w' ⟨rfl, hw'⟩; subst w'))
  go_loopw [8] (fun vi wr => ∃ i : Nat, vi = .int .i64 i ∧ i ≤ N ∧ wr = w) (fun vi _ => N + 1 - (intOf vi).toNat)
  case atStart => exact ⟨0, rfl, Nat.zero_le _, rfl⟩
  case round =>
    obtain ⟨i, rfl, hi1, rfl⟩ := hrel
    by_cases hc : i < n
    · obtain ⟨b, rfl, hcp1, hcp2, hcell⟩ := HR.out (by omega)
      have hx := (hcell i hc).1
      unfold maxLen at hcp2
      clear hcell
      by_cases hc1 : i < N
      · have hb := HN.out i hc1
        rw [ids_getD] at hb
        have hbb : ((nthW L i).1 == x) = false := by rw [beq_eq_false_iff_ne]; exact hb
        generalize (nthW L i).1 = y at *
        clear hb hlen
        go_wp2
        exact ⟨⟨i + 1, by simp, by omega, trivial⟩, by simp [intOf]; omega⟩
      · obtain rfl : N = i := by omega
        have hb := HA.out hc
        rw [ids_getD] at hb
        rw [hb] at hx
        clear hb hlen
        go_wp2
        go_ret
        exact ⟨rfl, rfl⟩
    · obtain rfl : n = i := by omega
      obtain rfl : N = n := by omega
      go_wp2
      go_ret
      exact ⟨rfl, rfl⟩

end Go.Proofs.Ytcndgcfdopjjfaa
