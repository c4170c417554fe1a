/-
  What Serve, Open and Warm do, each as a contract. Conditions: the slice lies where it is said to lie.
-/
import Derived.Test.YtdiifnakmemadaaLeastO
import Derived.Laws.EntriesVeiled
namespace Go.Proofs.Ytdiifnakmemadaa
open Go.ChangeShapes Go.WideShapes Go.ChangeAt Go.RowKit

/-- A place and whether there is one, as a call answers it. -/
def ans (o : Option Nat) : Value := .tuple #[.int .i64 (plc o), .bool o.isSome]

set_option maxRecDepth 100000 in
theorem Serve_any (w : World) (a : Option Addr) (len cap : Nat) (hs : List Hs) (h : HostsAt w a len cap hs) :
    Calls Try.prog 10 #[.slice a len cap] w fun e w' => e = .returned (ans (lst servesH busyH hs len)) ∧ Below w.heap.size w w' := by
  have hl := least_serve w a len cap hs h
  unfold ans
  generalize plc (lst servesH busyH hs len) = P at *
  generalize (lst servesH busyH hs len).isSome = B at *
  clear h
  go_enter Try.func10, Try.ntmps10
  go_wp2_with (go_at_call 24; refine hl.mono ?_; rintro e w1 ⟨rfl, hb⟩)
  go_ret2
  exact ⟨rfl, hb⟩

theorem makes (fn : Fn) (first cap : Array Value) (w : World) : (Instr.makeFunc fn first cap).run Try.prog w = .ok (.func fn first cap) w := rfl

set_option maxRecDepth 100000 in
theorem opener_any (each : Int) (w : World) :
    Calls Try.prog 25 #[.int .i64 each] w fun e w' => e = .returned (.func (.func 30) #[] #[.pointer (some ⟨w.heap.size, 0, none⟩)]) ∧ w'.cell? ⟨w.heap.size, 0, none⟩ = some (.int .i64 each) ∧ Below w.heap.size w w' := by
  have hmf := makes
  have hb : Below w.heap.size w (w.alloc (.cells #[.int .i64 each] 3)) := (Below.refl _ w).alloc (Nat.le_refl _) _
  have hc : (w.alloc (.cells #[.int .i64 each] 3)).cell? ⟨w.heap.size, 0, none⟩ = some (.int .i64 each) := by simp [go_sem]
  have HB := Hid.mk' (And.intro hc hb)
  clear hb hc
  go_enter Try.func25, Try.ntmps25
  go_wp2
  go_ret
  exact ⟨rfl, HB.out⟩

set_option maxRecDepth 100000 in
theorem Open_any (w : World) (a : Option Addr) (len cap : Nat) (hs : List Hs) (each : Int) (h : HostsAt w a len cap hs) :
    Calls Try.prog 12 #[.slice a len cap, .int .i64 each] w fun e w' => e = .returned (ans (lst (opensH each) allH hs len)) ∧ Below w.heap.size w w' := by
  have HL : Hid (∀ w1 q, Below w.heap.size w w1 → w1.cell? ⟨q, 0, none⟩ = some (.int .i64 each) → _) := fun w1 q hb hq => least_open w1 a len cap hs (h.below hb) q each hq
  have hop := opener_any each w
  unfold ans
  generalize plc (lst (opensH each) allH hs len) = P at *
  generalize (lst (opensH each) allH hs len).isSome = B at *
  clear h
  go_enter Try.func12, Try.ntmps12
  go_wp2_with (first
    | (go_at_call 25; refine hop.mono ?_; rintro e w1 ⟨rfl, hq, hb⟩; have hl := HL.out w1 _ hb hq)
    | (go_at_call 24; refine hl.mono ?_; rintro e w2 ⟨rfl, hb2⟩))
  go_ret2
  exact ⟨rfl, below_trans hb hb2⟩

set_option maxRecDepth 100000 in
theorem index_any (w : World) (a : Option Addr) (len cap : Nat) (hs : List Hs) (q u p : Nat) (each warm : Int) (h : HostsAt w a len cap hs)
    (hq : w.cell? ⟨q, 0, none⟩ = some (.func (.func 30) #[] #[.pointer (some ⟨p, 0, none⟩)])) (hu : w.cell? ⟨u, 0, none⟩ = some (.int .i64 warm)) (hp : w.cell? ⟨p, 0, none⟩ = some (.int .i64 each))
    (F : Nat) (hF : fst (warmH each warm) hs = F) (r : Int) (hr : r = if F < len then (F : Int) else -1) :
    Calls Try.prog 28 #[.slice a len cap, .func (.func 29) #[] #[.pointer (some ⟨q, 0, none⟩), .pointer (some ⟨u, 0, none⟩)]] w fun e w' => e = .returned (.int .i64 r) ∧ Below w.heap.size w w' := by
  have hl := h.hlen
  have hle := h.hle
  have hc := h.hcap
  unfold maxLen at hc
  have HH := Hid.mk' h
  have hfl : F ≤ len := by rw [← hF, ← hl]; exact fst_le _ _
  have HLT : Hid (∀ j, j < F → warmH each warm (hs.getD j z0) = false) := fun j hj => fst_lt _ _ j (by omega)
  have HAT : Hid (F < len → warmH each warm (hs.getD F z0) = true) := fun hj => by
    have := fst_at (warmH each warm) hs (by omega)
    rw [hF] at this
    exact this
  have HW : Hid (∀ w1 s m d b y, Below w.heap.size w w1 → Calls Try.prog 29 #[.agg #[.int .i64 s, .int .i64 m, .int .i64 d, .int .i64 b, .bool y], .pointer (some ⟨q, 0, none⟩), .pointer (some ⟨u, 0, none⟩)] w1 fun e w' => e = .returned (.bool (warmH each warm ⟨s, m, d, b, y⟩)) ∧ Below w1.heap.size w1 w') :=
    fun w1 s m d b y hb => warm_any s m d b y q u p each warm w1 ((hb.cell (p := ⟨q, 0, none⟩) (World.block_lt_of_cell? w _ hq)).trans hq) ((hb.cell (p := ⟨u, 0, none⟩) (World.block_lt_of_cell? w _ hu)).trans hu) ((hb.cell (p := ⟨p, 0, none⟩) (World.block_lt_of_cell? w _ hp)).trans hp)
  have HR : Hid ((F < len → r = (F : Int)) ∧ (¬ F < len → r = -1)) := ⟨fun h => by rw [hr, if_pos h], fun h => by rw [hr, if_neg h]⟩
  clear h hl hq hu hp hr hF
  go_enter Try.func28, Try.ntmps28
  go_wp2
  go_loopw [5, 8] (fun _ v8 wr => ∃ i : Nat, v8 = .int .i64 i ∧ i ≤ F ∧ Below w.heap.size w wr) (fun _ v8 _ => len + 1 - (intOf v8).toNat)
  case atStart => exact ⟨0, rfl, Nat.zero_le _, Below.refl _ _⟩
  case round =>
    obtain ⟨i, rfl, hi, hbl⟩ := hrel
    by_cases h1 : i < len
    · obtain ⟨b, off, rfl, hlt, c0, c1, c2, c3, c4⟩ := (HH.out.below hbl).rd i h1
      have H1 : Hid (i < F → warmH each warm (hs.getD i z0) = false) := fun h => HLT.out i h
      have H2 : Hid (i = F → warmH each warm (hs.getD i z0) = true) := fun h => by subst h; exact HAT.out h1
      generalize hs.getD i z0 = h at *
      obtain ⟨s, m, d, bz, y⟩ := h
      simp only [] at c0 c1 c2 c3 c4
      have hw := HW.out wr s m d bz y hbl
      have HB := Hid.mk' hbl
      clear hbl
      by_cases h2 : i < F
      · rw [H1.out h2] at hw
        clear H1 H2
        go_wp2_with (go_at_call 29; refine hw.mono ?_; rintro e w1 ⟨rfl, hb⟩)
        exact ⟨⟨i + 1, by simp, by omega, below_trans HB.out hb⟩, by simp [intOf]; omega⟩
      · obtain rfl : i = F := by omega
        rw [H2.out rfl] at hw
        have HR2 := Hid.mk' (HR.out.1 h1)
        clear H1 H2 HR
        go_wp2_with (go_at_call 29; refine hw.mono ?_; rintro e w1 ⟨rfl, hb⟩)
        go_ret
        exact ⟨ret_int HR2.out.symm, below_trans HB.out hb⟩
    · have HR2 := Hid.mk' (HR.out.2 (by omega))
      have HB := Hid.mk' hbl
      clear hbl HR
      go_wp2
      go_ret
      exact ⟨ret_int HR2.out.symm, HB.out⟩

/-- The first one of l that may be chosen, if there is one. -/
def fstO (m : Hs → Bool) (l : List Hs) : Option Nat := if fst m l < l.length then some (fst m l) else none

set_option maxRecDepth 100000 in
theorem Warm_any (w : World) (a : Option Addr) (len cap : Nat) (hs : List Hs) (each warm : Int) (h : HostsAt w a len cap hs) :
    Calls Try.prog 14 #[.slice a len cap, .int .i64 each, .int .i64 warm] w fun e w' => e = .returned (ans (fstO (warmH each warm) hs)) ∧ Below w.heap.size w w' := by
  have hl := h.hlen
  have hmf := makes
  obtain ⟨F, hF⟩ : ∃ F, fst (warmH each warm) hs = F := ⟨_, rfl⟩
  obtain ⟨r, hr⟩ : ∃ r, r = if F < len then (F : Int) else -1 := ⟨_, rfl⟩
  have HI : Hid (∀ w1 q u p, Below w.heap.size w w1 → w1.cell? ⟨q, 0, none⟩ = some (.func (.func 30) #[] #[.pointer (some ⟨p, 0, none⟩)]) → w1.cell? ⟨u, 0, none⟩ = some (.int .i64 warm) → w1.cell? ⟨p, 0, none⟩ = some (.int .i64 each) → _) := fun w1 q u p hb hq hu hp => index_any w1 a len cap hs q u p each warm (h.below hb) hq hu hp F hF r hr
  have HA : Hid (ans (fstO (warmH each warm) hs) = if 0 ≤ r then .tuple #[.int .i64 r, .bool true] else .tuple #[.int .i64 0, .bool false]) := by
    show ans (fstO (warmH each warm) hs) = _
    unfold fstO
    rw [hl, hF, hr]
    by_cases h1 : F < len
    · rw [if_pos h1, if_pos h1, if_pos (by omega)]
      rfl
    · rw [if_neg h1, if_neg h1, if_neg (by decide)]
      rfl
  clear h hl hF hr
  generalize ans (fstO (warmH each warm) hs) = A at *
  obtain ⟨w1, hw1⟩ : ∃ w1, w1 = w.alloc (.cells #[.int .i64 warm] 3) := ⟨_, rfl⟩
  have hb1 : Below w.heap.size w w1 := by rw [hw1]; exact (Below.refl _ w).alloc (Nat.le_refl _) _
  have hu1 : w1.cell? ⟨w.heap.size, 0, none⟩ = some (.int .i64 warm) := by rw [hw1]; simp [go_sem]
  have hop := opener_any each w1
  have HU := Hid.mk' (And.intro hb1 hu1)
  obtain ⟨u, hu⟩ : ∃ u, w.heap.size = u := ⟨_, rfl⟩
  obtain ⟨p, hp⟩ : ∃ p, w1.heap.size = p := ⟨_, rfl⟩
  rw [hp] at hop
  clear hb1 hu1
  go_enter Try.func14, Try.ntmps14
  go_wp2_with fail
  rw [← hw1]
  clear hw1
  refine hop.mono ?_
  rintro e w2 ⟨rfl, hc2, hb2⟩
  obtain ⟨w3, hw3⟩ : ∃ w3, w3 = w2.alloc (.cells #[.func (.func 30) #[] #[.pointer (some ⟨p, 0, none⟩)]] 46) := ⟨_, rfl⟩
  have hb3 : Below w2.heap.size w2 w3 := by rw [hw3]; exact (Below.refl _ w2).alloc (Nat.le_refl _) _
  have hq3 : w3.cell? ⟨w2.heap.size, 0, none⟩ = some (.func (.func 30) #[] #[.pointer (some ⟨p, 0, none⟩)]) := by rw [hw3]; simp [go_sem]
  have hu1 := HU.out.2
  have hul := World.block_lt_of_cell? w1 _ hu1
  rw [hu] at hu1 hul
  rw [hp] at hul
  have hu3 : w3.cell? ⟨u, 0, none⟩ = some (.int .i64 warm) := (hb3.cell (p := ⟨u, 0, none⟩) (Nat.lt_of_lt_of_le hul (by rw [← hp]; rw [← hp] at hb2; exact hb2.size))).trans ((hb2.cell (p := ⟨u, 0, none⟩) hul).trans hu1)
  have hp3 : w3.cell? ⟨p, 0, none⟩ = some (.int .i64 each) := (hb3.cell (p := ⟨p, 0, none⟩) (World.block_lt_of_cell? w2 _ hc2)).trans hc2
  have hbw : Below w.heap.size w w3 := below_trans (below_trans HU.out.1 (by rw [hp]; exact hb2)) hb3
  have hi := HI.out w3 _ u p hbw hq3 hu3 hp3
  have HB := Hid.mk' hbw
  clear hop hu3 hp3 hq3 hbw hb3 hul hu1 hb2 hc2 HU HI hp hu
  go_wp2_with fail
  rw [← hw3]
  clear hw3
  refine hi.mono ?_
  rintro e w4 ⟨rfl, hb4⟩
  by_cases hr0 : 0 ≤ r
  · have h1 := HA.out
    rw [if_pos hr0] at h1
    subst h1
    clear HA
    go_wp2
    go_ret2
    exact ⟨rfl, below_trans HB.out hb4⟩
  · have h1 := HA.out
    rw [if_neg hr0] at h1
    subst h1
    clear HA
    go_wp2
    go_ret2
    exact ⟨rfl, below_trans HB.out hb4⟩

end Go.Proofs.Ytdiifnakmemadaa
