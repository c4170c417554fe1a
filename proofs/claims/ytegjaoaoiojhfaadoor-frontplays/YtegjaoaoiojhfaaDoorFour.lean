/-
  What Bound, Done, Abort and Quit do, of nil too, and the law's own call of one of them. Conditions: the front lies where it is said to lie; what always holds of one holds of it.
-/
import Derived.Test.YtegjaoaoiojhfaaDoorMeth
namespace Go.Proofs.YtegjaoaoiojhfaaDoor
open Go.ChangeShapes Go.WideShapes Go.ChangeAt Go.RowKit

theorem fidx_mem (v : Int) : ∀ l, fidx v l < l.length ↔ v ∈ l
  | [] => by simp [fidx]
  | y :: l => by
    unfold fidx
    by_cases hy : v = y
    · simp [hy]
    · rw [if_neg hy]
      have := fidx_mem v l
      simp [this, hy]
theorem hasI_iff {v : Int} {l : List Int} : hasI v l = true ↔ v ∈ l := by simp [hasI, fidx_mem]
theorem hasI_eq {v : Int} {l : List Int} {b : Bool} (h : v ∈ l ↔ b = true) : hasI v l = b := by
  rw [Bool.eq_iff_iff, hasI_iff, h]
theorem ints_new (w : World) (zs : List Int) (vs : Array Value) (n : Nat) (hn : zs.length = n) (hv : ∀ j, j < n → vs[j]? = some (.int .i64 (zs.getD j 0))) (hl : n ≤ maxLen) :
    IntsAt (w.alloc (.cells vs 3)) (some ⟨w.heap.size, 0, none⟩) n n zs ∧ Below w.heap.size w (w.alloc (.cells vs 3)) := by
  refine ⟨⟨hn, Nat.le_refl _, hl, fun j hj => ⟨w.heap.size, 0, rfl, by simp, ?_⟩⟩, (Below.refl _ w).alloc (Nat.le_refl _) _⟩
  have := heap_alloc_new w (.cells vs 3)
  simp only [World.cell?, this]
  simpa using hv j hj

theorem go_0 (s : Ft) : hasI s.st [2] = goB 0 s.st ∧ mvT 3 (goB 0 s.st) s = goT 0 s := by
  refine ⟨hasI_eq (by simp [goB]), ?_⟩
  unfold mvT goT
  split <;> rfl
theorem go_1 (s : Ft) : hasI s.st [4] = goB 1 s.st ∧ mvT 1 (goB 1 s.st) s = goT 1 s := by
  refine ⟨hasI_eq (by simp [goB]), ?_⟩
  unfold mvT goT
  split <;> rfl
theorem go_3 {s : Ft} (h : Inv s) : hasI s.st [0, 1, 2, 3, 4, 5] = goB 3 s.st ∧ mvT 6 (goB 3 s.st) s = goT 3 s := by
  have h0 := h.lo
  have h1 := h.hi
  refine ⟨hasI_eq (by simp [goB]; omega), ?_⟩
  unfold mvT goT
  split <;> rfl
theorem go_2a (s : Ft) (h : hasI s.st [2, 3] = true) : goB 2 s.st = true ∧ mvT 5 true s = goT 2 s := by
  rw [hasI_iff] at h
  have h2 : s.st = 2 ∨ s.st = 3 := by simpa using h
  have hb : goB 2 s.st = true := by rcases h2 with e | e <;> rw [e] <;> decide
  have hx : goX 2 s.st = 5 := by rcases h2 with e | e <;> rw [e] <;> decide
  refine ⟨hb, ?_⟩
  unfold mvT goT
  rw [hb, hx]
  rfl
theorem go_2b (s : Ft) (h : hasI s.st [2, 3] = false) : hasI s.st [4] = goB 2 s.st ∧ mvT 1 (goB 2 s.st) s = goT 2 s := by
  have h2 : ¬ (s.st = 2 ∨ s.st = 3) := by
    intro e
    have : hasI s.st [2, 3] = true := hasI_iff.2 (by simpa using e)
    rw [h] at this
    cases this
  have hb : goB 2 s.st = (s.st == 4) := by
    unfold goB
    have e2 : (s.st == 2) = false := by simp; omega
    have e3 : (s.st == 3) = false := by simp; omega
    simp [e2, e3]
  refine ⟨hasI_eq (by rw [hb]; simp), ?_⟩
  unfold mvT goT
  rw [hb]
  by_cases h4 : s.st = 4
  · rw [h4]; rfl
  · have : (s.st == 4) = false := by simpa using h4
    rw [this]; rfl

section
variable {w : World} {A : Nat → Prop} {g : Nat} {s : Ft}
theorem bound_w (h : FIn w A g s) :
    Calls Tryd.prog 25 #[.pointer (some ⟨g, 0, none⟩)] w fun e w' => e = .returned (.bool (goB 0 s.st)) ∧ FIn w' A g (goT 0 s) ∧ Keep A w w' := by
  obtain ⟨hz, hb⟩ := ints_new w [2] #[.int .i64 2] 1 rfl (fun j hj => by match j, hj with | 0, _ => rfl) (by decide)
  have hm := moved_w (h.below hb) 3 _ _ _ _ hz _ (go_0 s).1
  rw [(go_0 s).2] at hm
  have HK : Hid (Keep A w _) := keep_below hb
  clear h hz hb
  generalize goB 0 s.st = b at *
  generalize goT 0 s = t at *
  go_enter Tryd.func25, Tryd.ntmps25
  go_wp2_with (go_at_call 34; refine hm.mono ?_; rintro e w2 ⟨rfl, hf, hk⟩)
  go_ret
  exact ⟨rfl, hf, HK.out.trans hk⟩
theorem done_w (h : FIn w A g s) :
    Calls Tryd.prog 26 #[.pointer (some ⟨g, 0, none⟩)] w fun e w' => e = .returned (.bool (goB 1 s.st)) ∧ FIn w' A g (goT 1 s) ∧ Keep A w w' := by
  obtain ⟨hz, hb⟩ := ints_new w [4] #[.int .i64 4] 1 rfl (fun j hj => by match j, hj with | 0, _ => rfl) (by decide)
  have hm := moved_w (h.below hb) 1 _ _ _ _ hz _ (go_1 s).1
  rw [(go_1 s).2] at hm
  have HK : Hid (Keep A w _) := keep_below hb
  clear h hz hb
  generalize goB 1 s.st = b at *
  generalize goT 1 s = t at *
  go_enter Tryd.func26, Tryd.ntmps26
  go_wp2_with (go_at_call 34; refine hm.mono ?_; rintro e w2 ⟨rfl, hf, hk⟩)
  go_ret
  exact ⟨rfl, hf, HK.out.trans hk⟩
theorem quit_w (h : FIn w A g s) (hI : Inv s) :
    Calls Tryd.prog 31 #[.pointer (some ⟨g, 0, none⟩)] w fun e w' => e = .returned (.bool (goB 3 s.st)) ∧ FIn w' A g (goT 3 s) ∧ Keep A w w' := by
  obtain ⟨hz, hb⟩ := ints_new w [0, 1, 2, 3, 4, 5] #[.int .i64 0, .int .i64 1, .int .i64 2, .int .i64 3, .int .i64 4, .int .i64 5] 6 rfl (fun j hj => by match j, hj with | 0, _ | 1, _ | 2, _ | 3, _ | 4, _ | 5, _ => rfl) (by decide)
  have hm := moved_w (h.below hb) 6 _ _ _ _ hz _ (go_3 hI).1
  rw [(go_3 hI).2] at hm
  have HK : Hid (Keep A w _) := keep_below hb
  clear h hz hb hI
  generalize goB 3 s.st = b at *
  generalize goT 3 s = t at *
  go_enter Tryd.func31, Tryd.ntmps31
  go_wp2_with (go_at_call 34; refine hm.mono ?_; rintro e w2 ⟨rfl, hf, hk⟩)
  go_ret
  exact ⟨rfl, hf, HK.out.trans hk⟩
theorem abort_w (h : FIn w A g s) :
    Calls Tryd.prog 30 #[.pointer (some ⟨g, 0, none⟩)] w fun e w' => e = .returned (.bool (goB 2 s.st)) ∧ FIn w' A g (goT 2 s) ∧ Keep A w w' := by
  obtain ⟨hz, hb⟩ := ints_new w [2, 3] #[.int .i64 2, .int .i64 3] 2 rfl (fun j hj => by match j, hj with | 0, _ | 1, _ => rfl) (by decide)
  cases hh : hasI s.st [2, 3] with
  | true =>
    have hm := moved_w (h.below hb) 5 _ _ _ _ hz _ hh
    rw [(go_2a s hh).2] at hm
    rw [(go_2a s hh).1]
    have HK : Hid (Keep A w _) := keep_below hb
    clear h hz hb hh
    generalize goT 2 s = t at *
    go_enter Tryd.func30, Tryd.ntmps30
    go_wp2_with (go_at_call 34; refine hm.mono ?_; rintro e w2 ⟨rfl, hf, hk⟩)
    go_ret
    exact ⟨rfl, hf, HK.out.trans hk⟩
  | false =>
    have hm := moved_w (h.below hb) 5 _ _ _ _ hz _ hh
    have HM : Hid (∀ w2 : World, FIn w2 A g s → Calls Tryd.prog 34 #[.pointer (some ⟨g, 0, none⟩), .int .i64 1, .slice (some ⟨w2.heap.size, 0, none⟩) 1 1] (w2.alloc (.cells #[.int .i64 4] 3)) fun e w' => e = .returned (.bool (goB 2 s.st)) ∧ FIn w' A g (goT 2 s) ∧ Keep A w2 w') := by
      intro w2 h2
      obtain ⟨hz2, hb2⟩ := ints_new w2 [4] #[.int .i64 4] 1 rfl (fun j hj => by match j, hj with | 0, _ => rfl) (by decide)
      have hm2 := moved_w (h2.below hb2) 1 _ _ _ _ hz2 _ (go_2b s hh).1
      rw [(go_2b s hh).2] at hm2
      exact hm2.mono fun e w' ⟨h1, h2, h3⟩ => ⟨h1, h2, (keep_below hb2).trans h3⟩
    have HK : Hid (Keep A w _) := keep_below hb
    clear h hz hb hh
    rw [show mvT 5 false s = s from rfl] at hm
    generalize goB 2 s.st = b at *
    generalize goT 2 s = t at *
    go_enter Tryd.func30, Tryd.ntmps30
    go_wp2_with fail
    refine hm.mono ?_
    rintro e w2 ⟨rfl, hf, hk⟩
    have HM2 := Hid.mk' (HM.out w2 hf)
    have HK2 := Hid.mk' (HK.out.trans hk)
    clear hf hk hm
    go_wp2_with fail
    refine HM2.out.mono ?_
    rintro e w3 ⟨rfl, hf, hk⟩
    go_wp2
    go_ret
    exact ⟨rfl, hf, HK2.out.trans hk⟩
end

theorem bound_nil (w : World) : Calls Tryd.prog 25 #[.pointer none] w fun e w' => e = .returned (.bool false) ∧ Below w.heap.size w w' := by
  obtain ⟨hz, hb⟩ := ints_new w [2] #[.int .i64 2] 1 rfl (fun j hj => by match j, hj with | 0, _ => rfl) (by decide)
  have hm := moved_nil 3 _ _ _ _ _ hz (by decide)
  have HB := Hid.mk' hb
  clear hz hb
  go_enter Tryd.func25, Tryd.ntmps25
  go_wp2_with (go_at_call 34; refine hm.mono ?_; rintro e w2 ⟨rfl, hw⟩; subst w2)
  go_ret
  exact ⟨rfl, HB.out⟩
theorem done_nil (w : World) : Calls Tryd.prog 26 #[.pointer none] w fun e w' => e = .returned (.bool false) ∧ Below w.heap.size w w' := by
  obtain ⟨hz, hb⟩ := ints_new w [4] #[.int .i64 4] 1 rfl (fun j hj => by match j, hj with | 0, _ => rfl) (by decide)
  have hm := moved_nil 1 _ _ _ _ _ hz (by decide)
  have HB := Hid.mk' hb
  clear hz hb
  go_enter Tryd.func26, Tryd.ntmps26
  go_wp2_with (go_at_call 34; refine hm.mono ?_; rintro e w2 ⟨rfl, hw⟩; subst w2)
  go_ret
  exact ⟨rfl, HB.out⟩
theorem quit_nil (w : World) : Calls Tryd.prog 31 #[.pointer none] w fun e w' => e = .returned (.bool false) ∧ Below w.heap.size w w' := by
  obtain ⟨hz, hb⟩ := ints_new w [0, 1, 2, 3, 4, 5] #[.int .i64 0, .int .i64 1, .int .i64 2, .int .i64 3, .int .i64 4, .int .i64 5] 6 rfl (fun j hj => by match j, hj with | 0, _ | 1, _ | 2, _ | 3, _ | 4, _ | 5, _ => rfl) (by decide)
  have hm := moved_nil 6 _ _ _ _ _ hz (by decide)
  have HB := Hid.mk' hb
  clear hz hb
  go_enter Tryd.func31, Tryd.ntmps31
  go_wp2_with (go_at_call 34; refine hm.mono ?_; rintro e w2 ⟨rfl, hw⟩; subst w2)
  go_ret
  exact ⟨rfl, HB.out⟩
theorem abort_nil (w : World) : Calls Tryd.prog 30 #[.pointer none] w fun e w' => e = .returned (.bool false) ∧ Below w.heap.size w w' := by
  obtain ⟨hz, hb⟩ := ints_new w [2, 3] #[.int .i64 2, .int .i64 3] 2 rfl (fun j hj => by match j, hj with | 0, _ | 1, _ => rfl) (by decide)
  obtain ⟨hz2, hb2⟩ := ints_new (w.alloc (.cells #[.int .i64 2, .int .i64 3] 3)) [4] #[.int .i64 4] 1 rfl (fun j hj => by match j, hj with | 0, _ => rfl) (by decide)
  have hm := moved_nil 5 _ _ _ _ _ hz (by decide)
  have hm2 := moved_nil 1 _ _ _ _ _ hz2 (by decide)
  have HB : Hid (Below w.heap.size w _) := hb.trans (hb2.mono hb.size)
  clear hz hb hz2 hb2
  go_enter Tryd.func30, Tryd.ntmps30
  go_wp2_with fail
  refine hm.mono ?_
  rintro e w2 ⟨rfl, hw⟩
  subst w2
  simp only [World.size_alloc] at hm2
  go_wp2_with fail
  refine hm2.mono ?_
  rintro e w3 ⟨rfl, hw⟩
  subst w3
  go_wp2
  go_ret
  exact ⟨rfl, HB.out⟩

theorem call_w {w : World} {A : Nat → Prop} {g : Nat} {s : Ft} (h : FIn w A g s) (hI : Inv s) (n : Int) :
    Calls Tryd.prog 18 #[.pointer (some ⟨g, 0, none⟩), .int .i64 n] w fun e w' => e = .returned (.bool (goB n s.st)) ∧ FIn w' A g (goT n s) ∧ Keep A w w' := by
  by_cases h0 : n = 0
  · subst h0
    have hc := bound_w h
    clear h hI
    go_enter Tryd.func18, Tryd.ntmps18
    go_wp2_with (go_at_call 25; refine hc.mono ?_; rintro e w2 ⟨rfl, hf, hk⟩)
    go_ret
    exact ⟨rfl, hf, hk⟩
  by_cases h1 : n = 1
  · subst h1
    have hc := done_w h
    clear h hI
    go_enter Tryd.func18, Tryd.ntmps18
    go_wp2_with (go_at_call 26; refine hc.mono ?_; rintro e w2 ⟨rfl, hf, hk⟩)
    go_ret
    exact ⟨rfl, hf, hk⟩
  by_cases h2 : n = 2
  · subst h2
    have hc := abort_w h
    clear h hI
    go_enter Tryd.func18, Tryd.ntmps18
    go_wp2_with (go_at_call 30; refine hc.mono ?_; rintro e w2 ⟨rfl, hf, hk⟩)
    go_ret
    exact ⟨rfl, hf, hk⟩
  have hc := quit_w h hI
  have e1 : goB n s.st = goB 3 s.st := by simp [goB, h0, h1, h2]
  have e2 : goT n s = goT 3 s := by simp [goT, e1, goX, h0, h1, h2]
  rw [e1, e2]
  have b0 : (n == 0) = false := by simpa using h0
  have b1 : (n == 1) = false := by simpa using h1
  have b2 : (n == 2) = false := by simpa using h2
  clear h hI e1 e2
  go_enter Tryd.func18, Tryd.ntmps18
  go_wp2_with (go_at_call 31; refine hc.mono ?_; rintro e w2 ⟨rfl, hf, hk⟩)
  go_ret
  exact ⟨rfl, hf, hk⟩
theorem call_nil (n : Int) (w : World) :
    Calls Tryd.prog 18 #[.pointer none, .int .i64 n] w fun e w' => e = .returned (.bool false) ∧ Below w.heap.size w w' := by
  by_cases h0 : n = 0
  · subst h0
    go_enter Tryd.func18, Tryd.ntmps18
    go_wp2_with (go_at_call 25; refine (bound_nil _).mono ?_; rintro e w2 ⟨rfl, hf⟩)
    go_ret
    exact ⟨rfl, hf⟩
  by_cases h1 : n = 1
  · subst h1
    go_enter Tryd.func18, Tryd.ntmps18
    go_wp2_with (go_at_call 26; refine (done_nil _).mono ?_; rintro e w2 ⟨rfl, hf⟩)
    go_ret
    exact ⟨rfl, hf⟩
  by_cases h2 : n = 2
  · subst h2
    go_enter Tryd.func18, Tryd.ntmps18
    go_wp2_with (go_at_call 30; refine (abort_nil _).mono ?_; rintro e w2 ⟨rfl, hf⟩)
    go_ret
    exact ⟨rfl, hf⟩
  have b0 : (n == 0) = false := by simpa using h0
  have b1 : (n == 1) = false := by simpa using h1
  have b2 : (n == 2) = false := by simpa using h2
  go_enter Tryd.func18, Tryd.ntmps18
  go_wp2_with (go_at_call 31; refine (quit_nil _).mono ?_; rintro e w2 ⟨rfl, hf⟩)
  go_ret
  exact ⟨rfl, hf⟩

end Go.Proofs.YtegjaoaoiojhfaaDoor
