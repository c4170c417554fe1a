/-
  Who may leave: the closure of package guard, May, Without, Spare and First, each as a contract. Conditions: a slice reads as the listed ints.
-/
import Derived.Test.YtkppicocjipakaaSmall
namespace Go.Proofs.Ytkppicocjipakaa
open Go.ChangeShapes Go.WideShapes Go.ChangeAt Go.RowKit

/-- The closure whose three variables lie from p on. -/
def fn (p : Nat) : Value := .func (.func 26) #[] #[.pointer (some ⟨p, 0, none⟩), .pointer (some ⟨p + 2, 0, none⟩), .pointer (some ⟨p + 1, 0, none⟩)]
/-- What they hold: the states, how much is left without one, the guard. -/
structure CloAt (w : World) (p : Nat) (a : Option Addr) (len cap : Nat) (zs : List Int) (L g : Int) : Prop where
  lt : p + 2 < w.heap.size
  c0 : w.cell? ⟨p, 0, none⟩ = some (.slice a len cap)
  c1 : w.cell? ⟨p + 1, 0, none⟩ = some (.int .i64 g)
  c2 : w.cell? ⟨p + 2, 0, none⟩ = some (.int .i64 L)
  ints : IntsAt w a len cap zs
theorem CloAt.below {w w' : World} {p : Nat} {a : Option Addr} {len cap : Nat} {zs : List Int} {L g : Int} (h : CloAt w p a len cap zs L g) (hb : Below w.heap.size w w') : CloAt w' p a len cap zs L g := by
  have h1 := h.lt
  exact ⟨Nat.lt_of_lt_of_le h.lt hb.size, (hb.cell (p := ⟨p, 0, none⟩) (by show p < _; omega)).trans h.c0, (hb.cell (p := ⟨p + 1, 0, none⟩) (by show p + 1 < _; omega)).trans h.c1, (hb.cell (p := ⟨p + 2, 0, none⟩) h1).trans h.c2, h.ints.below hb⟩

/-- What the closure tells. -/
def mayL (zs : List Int) (i L g : Int) : Bool := has zs.length i && (!(zs.getD i.toNat 0 == 0) || decide (g ≤ L))
theorem mayL_may (zs : List Int) (i e g : Int) : mayL zs i (capI ((act zs : Int) - 1) e) g = mayB zs i e g := rfl

set_option maxRecDepth 100000 in
theorem told_any (p : Nat) (a : Option Addr) (len cap : Nat) (zs : List Int) (L g i : Int) (w : World) (h : CloAt w p a len cap zs L g) :
    Calls Try.prog 26 #[.int .i64 i, .pointer (some ⟨p, 0, none⟩), .pointer (some ⟨p + 2, 0, none⟩), .pointer (some ⟨p + 1, 0, none⟩)] w fun r w' => r = .returned (.bool (mayL zs i L g)) ∧ w' = w := by
  obtain ⟨_, c0, c1, c2, hz, hle, hcap, hc⟩ := h
  unfold maxLen at hcap
  by_cases hi : 0 ≤ i ∧ i < (len : Int)
  · obtain ⟨h0, h1⟩ := hi
    obtain ⟨k, rfl⟩ : ∃ k : Nat, i = k := ⟨i.toNat, by omega⟩
    obtain ⟨b, off, rfl, _, hcell⟩ := hc k (by omega)
    have hh : has len (k : Int) = true := has_iff.2 ⟨h0, h1⟩
    obtain ⟨x, hx⟩ : ∃ x, zs.getD k 0 = x := ⟨_, rfl⟩
    rw [hx] at hcell
    have HM : Hid (mayL zs (k : Int) L g = (!(x == 0) || decide (g ≤ L))) := by
      show mayL zs (k : Int) L g = _
      unfold mayL
      rw [hz, hh, Int.toNat_natCast, hx]
      rfl
    clear hc hx hz
    by_cases hx0 : x = 0
    · subst hx0
      go_enter Try.func26, Try.ntmps26
      go_wp2_with (go_at_call 25; refine (there_any _ _ _ _ _).mono ?_; rintro e w' ⟨rfl, rfl⟩)
      go_ret
      exact ⟨ret_bool (by rw [HM.out]; simp), rfl⟩
    · go_enter Try.func26, Try.ntmps26
      go_wp2_with (go_at_call 25; refine (there_any _ _ _ _ _).mono ?_; rintro e w' ⟨rfl, rfl⟩)
      go_ret
      exact ⟨ret_bool (by rw [HM.out]; simp [hx0]), rfl⟩
  · have hh : has len i = false := has_false hi
    have HM : Hid (mayL zs i L g = false) := by
      show mayL zs i L g = false
      unfold mayL
      rw [hz, hh]
      rfl
    clear hc hz hi
    go_enter Try.func26, Try.ntmps26
    go_wp2_with (go_at_call 25; refine (there_any _ _ _ _ _).mono ?_; rintro e w' ⟨rfl, rfl⟩)
    go_ret
    exact ⟨ret_bool HM.out.symm, rfl⟩

set_option maxRecDepth 100000 in
theorem leaver_any (a : Option Addr) (len cap : Nat) (zs : List Int) (e g : Int) (w : World) (hr : IntsAt w a len cap zs) :
    Calls Try.prog 22 #[.slice a len cap, .int .i64 e, .int .i64 g] w fun r w' => r = .returned (fn w.heap.size) ∧ CloAt w' w.heap.size a len cap zs (capI ((act zs : Int) - 1) e) g ∧ Below w.heap.size w w' := by
  have hmf : ∀ (fn : Fn) (first cap : Array Value) (w : World), (Instr.makeFunc fn first cap).run Try.prog w = .ok (.func fn first cap) w := fun _ _ _ _ => rfl
  obtain ⟨W, hW⟩ : ∃ W, W = (w.alloc (.cells #[.slice a len cap] 22)).alloc (.cells #[.int .i64 g] 3) := ⟨_, rfl⟩
  have hb : Below w.heap.size w W := by rw [hW]; exact ((Below.refl _ w).alloc (Nat.le_refl _) _).alloc (by simp) _
  have hs : W.heap.size = w.heap.size + 2 := by rw [hW]; simp
  have c0 : W.cell? ⟨w.heap.size, 0, none⟩ = some (.slice a len cap) := by rw [hW]; simp [go_sem]
  have c1 : W.cell? ⟨w.heap.size + 1, 0, none⟩ = some (.int .i64 g) := by rw [hW]; simp [go_sem]
  have hr2 := hr.below hb
  have hact : act zs ≤ zs.length := act_le zs
  have hl := hr.hlen
  have hle := hr.hle
  have hcap := hr.hcap
  unfold maxLen at hcap
  have HR : Hid _ := hr2
  clear hr2 hr
  go_enter Try.func22, Try.ntmps22
  go_wp2_with fail
  rw [← hW]
  clear hW
  have HB : Hid _ := hb
  clear hb
  refine (active_any _ _ _ _ _ HR.out).mono ?_
  rintro e1 w1 ⟨rfl, hw1⟩
  obtain rfl : W = w1 := hw1.symm
  clear hw1
  go_wp2_with fail
  refine (capacity_any _ _ _).mono ?_
  rintro e1 w1 ⟨rfl, hw1⟩
  obtain rfl : W = w1 := hw1.symm
  clear hw1
  go_wp2
  go_ret
  generalize capI ((act zs : Int) - 1) e = L
  have hb3 : Below W.heap.size W (W.alloc (.cells #[.int .i64 L] 3)) := (Below.refl _ W).alloc (Nat.le_refl _) _
  refine ⟨rfl, ⟨by simp [hs], ?_, ?_, ?_, HR.out.below hb3⟩, HB.out.trans (hb3.mono HB.out.size)⟩
  · exact (hb3.cell (p := ⟨w.heap.size, 0, none⟩) (by show w.heap.size < _; omega)).trans c0
  · exact (hb3.cell (p := ⟨w.heap.size + 1, 0, none⟩) (by show w.heap.size + 1 < _; omega)).trans c1
  · rw [← hs]
    simp [go_sem]

set_option maxRecDepth 100000 in
theorem may_any (a : Option Addr) (len cap : Nat) (zs : List Int) (i e g : Int) (w : World) (hr : IntsAt w a len cap zs) :
    Calls Try.prog 15 #[.slice a len cap, .int .i64 i, .int .i64 e, .int .i64 g] w fun r w' => r = .returned (.bool (mayB zs i e g)) ∧ Below w.heap.size w w' := by
  have HL : Hid _ := hr
  clear hr
  go_enter Try.func15, Try.ntmps15
  go_wp2_with fail
  refine (leaver_any a len cap zs e g w HL.out).mono ?_
  rintro e1 w1 ⟨rfl, hC, hb⟩
  have HC : Hid _ := hC
  have HB : Hid _ := hb
  clear hC hb HL
  unfold fn
  go_wp2_with fail
  refine (told_any _ _ _ _ _ _ _ _ _ HC.out).mono ?_
  rintro e1 w2 ⟨rfl, hw2⟩
  obtain rfl : w1 = w2 := hw2.symm
  go_wp2
  go_ret
  exact ⟨ret_bool (mayL_may zs i e g), HB.out⟩

/-- The capacity without the place i. -/
def withI (zs : List Int) (i e : Int) : Int := capI ((act zs : Int) - (one zs i : Nat)) e

set_option maxRecDepth 100000 in
theorem without_any (a : Option Addr) (len cap : Nat) (zs : List Int) (i e : Int) (w : World) (hr : IntsAt w a len cap zs) :
    Calls Try.prog 17 #[.slice a len cap, .int .i64 i, .int .i64 e] w fun r w' => r = .returned (.int .i64 (withI zs i e)) ∧ w' = w := by
  have HR : Hid _ := hr
  obtain ⟨hz, hle, hcap, hc⟩ := hr
  unfold maxLen at hcap
  have ha := act_le zs
  have HW : Hid (∀ n, one zs i = n → withI zs i e = capI ((act zs : Int) - (n : Nat)) e) := fun n hn => by subst hn; rfl
  by_cases hi : 0 ≤ i ∧ i < (len : Int)
  · obtain ⟨h0, h1⟩ := hi
    obtain ⟨k, rfl⟩ : ∃ k : Nat, i = k := ⟨i.toNat, by omega⟩
    obtain ⟨b, off, rfl, _, hcell⟩ := hc k (by omega)
    have hh : has len (k : Int) = true := has_iff.2 ⟨h0, h1⟩
    obtain ⟨x, hx⟩ : ∃ x, zs.getD k 0 = x := ⟨_, rfl⟩
    rw [hx] at hcell
    by_cases hx0 : x = 0
    · have H1 : Hid _ := HW.out 1 (by unfold one; rw [hz, hh, Int.toNat_natCast, hx, hx0]; rfl)
      subst hx0
      clear hc hx HW
      go_enter Try.func17, Try.ntmps17
      go_wp2_with (first
        | (go_at_call 24; refine (active_any _ _ _ _ _ HR.out).mono ?_; rintro e w' ⟨rfl, rfl⟩)
        | (go_at_call 25; refine (there_any _ _ _ _ _).mono ?_; rintro e w' ⟨rfl, rfl⟩)
        | (go_at_call 23; refine (capacity_any _ _ _).mono ?_; rintro e w' ⟨rfl, rfl⟩))
      go_ret
      exact ⟨ret_int H1.out.symm, rfl⟩
    · have H1 : Hid _ := HW.out 0 (by unfold one; rw [hz, hh, Int.toNat_natCast, hx]; simp [hx0])
      clear hc hx HW
      go_enter Try.func17, Try.ntmps17
      go_wp2_with (first
        | (go_at_call 24; refine (active_any _ _ _ _ _ HR.out).mono ?_; rintro e w' ⟨rfl, rfl⟩)
        | (go_at_call 25; refine (there_any _ _ _ _ _).mono ?_; rintro e w' ⟨rfl, rfl⟩)
        | (go_at_call 23; refine (capacity_any _ _ _).mono ?_; rintro e w' ⟨rfl, rfl⟩))
      go_ret
      exact ⟨ret_int (by rw [H1.out]; simp), rfl⟩
  · have hh : has len i = false := has_false hi
    have H1 : Hid _ := HW.out 0 (by unfold one; rw [hz, hh]; rfl)
    clear hc HW hi
    go_enter Try.func17, Try.ntmps17
    go_wp2_with (first
      | (go_at_call 24; refine (active_any _ _ _ _ _ HR.out).mono ?_; rintro e w' ⟨rfl, rfl⟩)
      | (go_at_call 25; refine (there_any _ _ _ _ _).mono ?_; rintro e w' ⟨rfl, rfl⟩)
      | (go_at_call 23; refine (capacity_any _ _ _).mono ?_; rintro e w' ⟨rfl, rfl⟩))
    go_ret
    exact ⟨ret_int (by rw [H1.out]; simp), rfl⟩

set_option maxHeartbeats 1000000 in
set_option maxRecDepth 100000 in
theorem spare_any (a : Option Addr) (len cap : Nat) (zs : List Int) (e g : Int) (w : World) (hr : IntsAt w a len cap zs) :
    Calls Try.prog 19 #[.slice a len cap, .int .i64 e, .int .i64 g] w fun r w' => r = .returned (.int .i64 ((act zs : Int) - (down (act zs) e g : Nat))) ∧ w' = w := by
  have HR : Hid _ := hr
  obtain ⟨hz, hle, hcap, hc⟩ := hr
  unfold maxLen at hcap
  have ha := act_le zs
  have hdl := down_le (act zs) e g
  have hac := active_any a len cap zs w HR.out
  clear HR hc
  generalize act zs = A at *
  obtain ⟨D, hD⟩ : ∃ D, down A e g = D := ⟨_, rfl⟩
  rw [hD] at hdl
  rw [hD]
  have HD : Hid (down A e g = D) := hD
  clear hD
  go_enter Try.func19, Try.ntmps19
  go_wp2_with fail
  refine hac.mono ?_
  rintro e1 w1 ⟨rfl, hw1⟩
  obtain rfl : w = w1 := hw1.symm
  clear hw1 hac
  go_wp2
  go_loop [8] (fun v => ∃ k : Nat, k ≤ A ∧ v = .int .i64 k ∧ Hid (down k e g = D)) (fun v => (intOf v).toNat)
  case atStart => exact ⟨A, Nat.le_refl _, rfl, HD⟩
  case round =>
    obtain ⟨k, hk, rfl, hd⟩ := hrel
    cases k with
    | zero =>
      have H0 : Hid (D = 0) := hd.out.symm
      clear hd HD
      go_wp2
      go_ret
      exact ⟨ret_int (by rw [H0.out]; simp), rfl⟩
    | succ k =>
      by_cases hg : g ≤ capI (k : Int) e
      · have HS : Hid (down k e g = D) := by rw [← down_step hg]; exact hd.out
        have hg2 : ¬ capI (k : Int) e < g := by omega
        clear hd HD
        go_wp2_with (first
          | (go_at_call 23; refine (capacity_any _ _ _).mono ?_; rintro e w' ⟨rfl, rfl⟩))
        go_round
        case rel => exact ⟨k, by omega, by go_num, HS⟩
        case measure => simp [intOf]
      · have HS : Hid (D = k + 1) := by rw [← hd.out, down_stay hg]; exact rfl
        have hg2 : capI (k : Int) e < g := by omega
        clear hd HD
        go_wp2_with (first
          | (go_at_call 23; refine (capacity_any _ _ _).mono ?_; rintro e w' ⟨rfl, rfl⟩))
        go_ret
        exact ⟨ret_int (by rw [HS.out]; simp), rfl⟩

theorem first_step (zs : List Int) (e g : Int) (l : List Int) (k : Nat) (hk : k < l.length) :
    firstI zs e g (l.drop k) = if mayB zs (l.getD k 0) e g = true then (l.getD k 0, true) else firstI zs e g (l.drop (k + 1)) := by
  rw [List.drop_eq_getElem_cons hk]
  simp [firstI, List.getD, hk]

set_option maxHeartbeats 1000000 in
set_option maxRecDepth 100000 in
theorem first_any (a : Option Addr) (len cap : Nat) (zs : List Int) (a' : Option Addr) (len' cap' : Nat) (l : List Int) (e g : Int) (w : World) (hr : IntsAt w a len cap zs) (hr' : IntsAt w a' len' cap' l) :
    Calls Try.prog 11 #[.slice a len cap, .slice a' len' cap', .int .i64 e, .int .i64 g] w fun r w' => r = .returned (.tuple #[.int .i64 (firstI zs e g l).1, .bool (firstI zs e g l).2]) ∧ Below w.heap.size w w' := by
  have HL : Hid _ := hr
  have HR : Hid _ := hr'
  have hl' := hr'.hlen
  have hle' := hr'.hle
  have hcap' := hr'.hcap
  unfold maxLen at hcap'
  obtain ⟨P, hP⟩ : ∃ P, firstI zs e g l = P := ⟨_, rfl⟩
  have HP : Hid (firstI zs e g (l.drop 0) = P) := hP
  rw [hP]
  clear hP hr hr'
  obtain ⟨p1, p2⟩ := P
  go_enter Try.func11, Try.ntmps11
  go_wp2_with fail
  refine (leaver_any a len cap zs e g w HL.out).mono ?_
  rintro e1 w1 ⟨rfl, hC, hb⟩
  have HC : Hid _ := hC
  have HB : Hid _ := hb
  have HR1 : Hid _ := HR.out.below hb
  clear hC hb HL HR
  unfold fn
  go_wp2
  go_loop [19] (fun v => ∃ k : Nat, k ≤ len' ∧ v = .int .i64 k ∧ Hid (firstI zs e g (l.drop k) = (p1, p2))) (fun v => len' - (intOf v).toNat)
  case atStart => exact ⟨0, Nat.zero_le _, rfl, HP⟩
  case round =>
    clear HP
    obtain ⟨k, hk, rfl, hp⟩ := hrel
    by_cases hlt : k < len'
    · obtain ⟨b, off, rfl, _, hcell⟩ := HR1.out.at_ k hlt
      have hs := first_step zs e g l k (by omega)
      rw [hp.out] at hs
      obtain ⟨x, hx⟩ : ∃ x, l.getD k 0 = x := ⟨_, rfl⟩
      rw [hx] at hcell hs
      have ht := told_any _ _ _ _ _ _ _ x _ HC.out
      rw [mayL_may] at ht
      cases hm : mayB zs x e g with
      | true =>
        rw [hm] at hs ht
        simp at hs
        obtain ⟨rfl, rfl⟩ := hs
        clear hp hx hm
        go_wp2_with (go_at_call 26; refine ht.mono ?_; rintro e w' ⟨rfl, hw⟩; obtain rfl : w1 = w' := hw.symm; clear hw)
        go_ret2
        exact ⟨rfl, HB.out⟩
      | false =>
        rw [hm] at hs ht
        have hs2 : firstI zs e g (l.drop (k + 1)) = (p1, p2) := by simpa using hs.symm
        have HS : Hid _ := hs2
        clear hp hx hm hs hs2
        go_wp2_with (go_at_call 26; refine ht.mono ?_; rintro e w' ⟨rfl, hw⟩; obtain rfl : w1 = w' := hw.symm; clear hw)
        go_round
        case rel => exact ⟨k + 1, by omega, by go_num, HS⟩
        case measure => simp [intOf]; omega
    · have e2 : l.drop k = [] := List.drop_eq_nil_of_le (by omega)
      have h2 := hp.out
      rw [e2] at h2
      simp [firstI] at h2
      obtain ⟨rfl, rfl⟩ := h2
      clear e2 hp
      go_wp2
      go_ret2
      exact ⟨rfl, HB.out⟩

end Go.Proofs.Ytkppicocjipakaa
