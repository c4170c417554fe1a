/-
  What Drain, Undrain, Force, Eject, Probe and New do, also of nil. Conditions: a fleet lies where it is said to lie, of at most 4000 hosts, and drains; of its drains none stands twice; a name is no longer than the greatest length.
-/
import Derived.Test.YtmlkpfkeeifgeaaDoorFRead
namespace Go.Proofs.YtmlkpfkeeifgeaaDoor
open Go.ChangeShapes Go.WideShapes Go.ChangeAt Go.RowKit

theorem errF_ok {x : ByteArray} {H : List Hs} (h : errF x H = 0) : nameB x = true ∧ isH x H = true := by
  unfold errF at h
  cases h0 : nameB x <;> cases h1 : isH x H <;> simp_all

section
variable {w : World} {A : Nat → Prop} {f : Nat} {e gd : Int} {H : List Hs} {L M : List Dr}
/-- A host's cells. -/
theorem FIn.host (h : FIn w A f e gd H L M) {x : ByteArray} (hx : isH x H = true) : ∃ b c, w.cell? ⟨f, 3, none⟩ = some (.slice (some ⟨b, 0, none⟩) H.length c) ∧ H.length ≤ c ∧ c ≤ maxLen ∧ f < w.heap.size ∧ b < w.heap.size ∧
    w.cell? ⟨b, plN x H * 3 + 1, none⟩ = some (.int .i64 (ofN x H).st) ∧ w.cell? ⟨b, plN x H * 3 + 2, none⟩ = some (.bool (ofN x H).lv) ∧ (((plN x H : Nat) : Int) == -1) = false ∧ ((plN x H : Nat) : Int) < (H.length : Int) ∧ plN x H < H.length := by
  obtain ⟨g, a, c, -, -, -, c3, -, hle, hcm, hfl, -, hrow⟩ := h.cells
  obtain ⟨b, rfl, hb, -, y1, y2, -⟩ := hrow _ (pl_yes hx).2
  have := (pl_yes hx).2
  exact ⟨b, c, c3, hle, hcm, hfl, hb, y1, y2, beq_eq_false_iff_ne.2 (by omega), by omega, this⟩

theorem fdrain_nil (x : ByteArray) (w : World) : Calls Tryd.prog 23 #[.pointer none, .string x] w fun r w' => r = .returned (.int .i64 1) ∧ w' = w := by
  go_enter Tryd.func23, Tryd.ntmps23
  go_wp2_with (go_at_call 60; refine (ffind_nil x _).mono ?_; rintro e w' ⟨rfl, hw'⟩; subst w')
  go_ret
  exact ⟨rfl, rfl⟩
theorem fundrain_nil (x : ByteArray) (w : World) : Calls Tryd.prog 32 #[.pointer none, .string x] w fun r w' => r = .returned (.int .i64 1) ∧ w' = w := by
  go_enter Tryd.func32, Tryd.ntmps32
  go_wp2_with (go_at_call 60; refine (ffind_nil x _).mono ?_; rintro e w' ⟨rfl, hw'⟩; subst w')
  go_ret
  exact ⟨rfl, rfl⟩
theorem fforce_nil (x : ByteArray) (d : Int) (w : World) : Calls Tryd.prog 31 #[.pointer none, .string x, .int .i64 d] w fun r w' => r = .returned (.int .i64 1) ∧ w' = w := by
  go_enter Tryd.func31, Tryd.ntmps31
  go_wp2_with (go_at_call 60; refine (ffind_nil x _).mono ?_; rintro e w' ⟨rfl, hw'⟩; subst w')
  go_ret
  exact ⟨rfl, rfl⟩
theorem feject_nil (x : ByteArray) (w : World) : Calls Tryd.prog 33 #[.pointer none, .string x] w fun r w' => r = .returned (.int .i64 1) ∧ w' = w := by
  go_enter Tryd.func33, Tryd.ntmps33
  go_wp2_with (go_at_call 60; refine (ffind_nil x _).mono ?_; rintro e w' ⟨rfl, hw'⟩; subst w')
  go_ret
  exact ⟨rfl, rfl⟩
theorem fprobe_nil (x : ByteArray) (w : World) : Calls Tryd.prog 38 #[.pointer none, .string x] w fun r w' => r = .returned (.bool false) ∧ Below w.heap.size w w' := by
  go_enter Tryd.func38, Tryd.ntmps38
  go_wp2_with (first
    | (go_at_call 58; refine (fplace_nil x _).mono ?_; rintro e w2 ⟨rfl, hb2⟩)
    | (go_at_call 57; refine (fturn_no _ _ _).mono ?_; rintro e w' ⟨rfl, hw'⟩; subst w'))
  go_ret
  exact ⟨rfl, hb2⟩
theorem fempty_nil (x : ByteArray) (w : World) : Calls Tryd.prog 30 #[.pointer none, .string x] w fun r w' => r = .returned (.bool false) ∧ Below w.heap.size w w' := by
  go_enter Tryd.func30, Tryd.ntmps30
  go_wp2_with (first
    | (go_at_call 58; refine (fplace_nil x _).mono ?_; rintro e w2 ⟨rfl, hb2⟩)
    | (go_at_call 57; refine (fturn_no _ _ _).mono ?_; rintro e w' ⟨rfl, hw'⟩; subst w'))
  go_ret
  exact ⟨rfl, hb2⟩
theorem fresolve_nil (l : Value) (d : Int) (w : World) : Calls Tryd.prog 21 #[.pointer none, l, .int .i64 d] w fun r w' => r = .returned (.tuple #[.slice none 0 0, .slice none 0 0, .int .i64 1]) ∧ w' = w := by
  go_enter Tryd.func21, Tryd.ntmps21
  go_wp2
  refine bodyPost_ret (v := .tuple #[.slice none 0 0, .slice none 0 0, .int .i64 1]) (by simp [results, Tryd.results21, go_sem]) rfl ?_
  exact ⟨rfl, rfl⟩
theorem fadmit_nil (d : Int) (w : World) : Calls Tryd.prog 22 #[.pointer none, .int .i64 d] w fun r w' => r = .returned (.slice none 0 0) ∧ w' = w := by
  go_enter Tryd.func22, Tryd.ntmps22
  go_wp2
  go_ret
  exact ⟨rfl, rfl⟩
theorem fnew_w (e gd : Int) (w : World) (ht : St.Tabs w) : Calls Tryd.prog 12 #[.int .i64 e, .int .i64 gd] w fun r w' => ∃ f, r = .returned (.pointer (some ⟨f, 0, none⟩)) ∧ w.heap.size ≤ f ∧ FIn w' (fun k => k < w.heap.size) f e gd [] [] [] ∧ Below w.heap.size w w' := by
  have hnew := new_any w
  have HT := Hid.mk' ht
  have hpos := ht.pos
  go_enter Tryd.func12, Tryd.ntmps12
  go_wp2_with (go_at_call 37; refine hnew.mono ?_; rintro r w1 ⟨rfl, hd, hb1⟩)
  go_ret
  have hb2 : Below w1.heap.size w1 (w1.alloc (.cells #[.pointer (some ⟨w.heap.size, 0, none⟩), .int .i64 e, .int .i64 gd, .slice none 0 0] 73)) := (Below.refl _ w1).alloc (Nat.le_refl _) _
  refine ⟨_, rfl, hb1.size, ⟨⟨w.heap.size, none, 0, heap_alloc_new w1 _, World.ownsRow_nil _ _ _ _, fun k hk => ?_, ?_⟩, fun hk => ?_, fun k hk => ?_, HT.out.below (hb1.trans (hb2.mono hb1.size)), hpos⟩, hb1.trans (hb2.mono hb1.size)⟩
  · obtain ⟨y, hy, -⟩ := hk
    cases hy
  · refine hd.keep (keep_below hb2) ?_ ?_
    · rintro k (hk | rfl | ⟨y, hy, -⟩)
      · exact .inl hk
      · exact .inr (Nat.le_refl _)
      · cases hy
    · have := hb1.size
      rintro k (hk | rfl | ⟨y, hy, -⟩)
      · simp; omega
      · simp
      · cases hy
  · have := hb1.size
    have hk' : w1.heap.size < w.heap.size := hk
    omega
  · have := hb1.size
    have hk' : k < w.heap.size := hk
    simp
    omega
end

section
variable {w : World} {A : Nat → Prop} {f : Nat} {e gd : Int} {s : Fl}

set_option maxHeartbeats 1000000 in
theorem fdrain_w (h : FIn w A f e gd s.H s.L s.M) (x : ByteArray) (hs : x.size ≤ maxLen) :
    Calls Tryd.prog 23 #[.pointer (some ⟨f, 0, none⟩), .string x] w fun r w' => r = .returned (.int .i64 (drE x s)) ∧ FIn w' A f e gd (drS x s).H (drS x s).L (drS x s).M ∧ Keep A w w' := by
  have hf := ffind_w h x hs _ _ rfl rfl
  have HF := Hid.mk' h
  by_cases hE : errF x s.H = 0
  · obtain ⟨hnm, hx⟩ := errF_ok hE
    obtain ⟨b, c, c3, hle, hcm, hfl, hb, y1, y2, p0, p1, p2⟩ := h.host hx
    rw [hE, if_pos rfl, (pl_yes hx).1] at hf
    have HA : Hid (∀ w', Below w.heap.size w w' → ∃ g, w'.cell? ⟨f, 0, none⟩ = some (.pointer (some ⟨g, 0, none⟩)) ∧ Calls Tryd.prog 61 #[.pointer (some ⟨g, 0, none⟩), .string x] w' fun r w'' => r = .returned (.int .i64 (askE x s.L s.M)) ∧ FIn w'' A f e gd s.H (askL x s.L s.M) s.M ∧ Keep A w' w'') := fun w' hb => by
      obtain ⟨g, g0, B, hd, -, -, hp⟩ := (h.below hb).drains
      exact ⟨g, g0, (ask_w w' B g s.L s.M x hd hs).mono fun r w'' ⟨q1, q2, q3⟩ => ⟨q1, hp w'' _ _ q2 q3⟩⟩
    have E1 : Hid ((ofN x s.H).st = 1 ∨ (ofN x s.H).st = 3 → drE x s = 8 ∧ drS x s = s) := fun hc => by
      have : drE x s = 8 := by unfold drE; rw [if_pos hE, if_pos hc]
      exact ⟨this, by unfold drS; rw [this]; rfl⟩
    have E2 : Hid (¬ ((ofN x s.H).st = 1 ∨ (ofN x s.H).st = 3) → drE x s = askE x s.L s.M ∧ drS x s = ⟨s.H, askL x s.L s.M, s.M⟩) := fun hc => by
      have : drE x s = askE x s.L s.M := by unfold drE; rw [if_pos hE, if_neg hc]
      refine ⟨this, ?_⟩
      unfold drS
      rw [this]
      split
      · rfl
      · rename_i h0
        have : askL x s.L s.M = s.L := by
          unfold askE at h0
          unfold askL
          split
          · rfl
          · split
            · rfl
            · split
              · rfl
              · simp_all
        rw [this]
    have H1 : Hid ((ofN x s.H).st = 1 ∨ ((ofN x s.H).st = 3 ∧ ((ofN x s.H).st == 1) = false) ∨ (((ofN x s.H).st == 1) = false ∧ ((ofN x s.H).st == 3) = false)) := by
      show _ ∨ _ ∨ _
      by_cases h1 : (ofN x s.H).st = 1
      · exact .inl h1
      · by_cases h3 : (ofN x s.H).st = 3
        · exact .inr (.inl ⟨h3, beq_eq_false_iff_ne.2 h1⟩)
        · exact .inr (.inr ⟨beq_eq_false_iff_ne.2 h1, beq_eq_false_iff_ne.2 h3⟩)
    unfold maxLen at hcm
    clear h hE hx
    generalize (ofN x s.H).st = t at *
    generalize plN x s.H = p at *
    generalize s.H.length = n at *
    rcases H1.out with rfl | ⟨rfl, h1⟩ | ⟨h1, h3⟩
    · go_enter Tryd.func23, Tryd.ntmps23
      go_wp2_with (go_at_call 60; refine hf.mono ?_; rintro e w1 ⟨rfl, hb1⟩; have z3 := (hb1.cell (p := ⟨f, 3, none⟩) hfl).trans c3; have z1 := (hb1.cell (p := ⟨b, p * 3 + 1, none⟩) hb).trans y1)
      go_ret
      obtain ⟨q1, q2⟩ := E1.out (by simp)
      rw [q1, q2]
      exact ⟨rfl, HF.out.below hb1, keep_below hb1⟩
    · go_enter Tryd.func23, Tryd.ntmps23
      go_wp2_with (go_at_call 60; refine hf.mono ?_; rintro e w1 ⟨rfl, hb1⟩; have z3 := (hb1.cell (p := ⟨f, 3, none⟩) hfl).trans c3; have z1 := (hb1.cell (p := ⟨b, p * 3 + 1, none⟩) hb).trans y1)
      go_ret
      obtain ⟨q1, q2⟩ := E1.out (by simp)
      rw [q1, q2]
      exact ⟨rfl, HF.out.below hb1, keep_below hb1⟩
    · have E3 : Hid (drE x s = askE x s.L s.M ∧ drS x s = ⟨s.H, askL x s.L s.M, s.M⟩) := E2.out (fun hc => by
        rcases hc with rfl | rfl
        · simp at h1
        · simp at h3)
      clear E1 E2 H1
      go_enter Tryd.func23, Tryd.ntmps23
      go_wp2_with (first
        | (go_at_call 60; refine hf.mono ?_; rintro e w1 ⟨rfl, hb1⟩; have z3 := (hb1.cell (p := ⟨f, 3, none⟩) hfl).trans c3; have z1 := (hb1.cell (p := ⟨b, p * 3 + 1, none⟩) hb).trans y1; obtain ⟨g, g0, ha⟩ := HA.out w1 hb1)
        | (go_at_call 61; refine ha.mono ?_; rintro e w2 ⟨rfl, hf2, hk2⟩))
      go_ret
      obtain ⟨q1, q2⟩ := E3.out
      rw [q1, q2]
      exact ⟨rfl, hf2, (keep_below hb1).trans hk2⟩
  · have hd : drE x s = errF x s.H := by unfold drE; rw [if_neg hE]
    have hsS : drS x s = s := by unfold drS; rw [hd, if_neg hE]
    rw [if_neg hE] at hf
    rw [hd, hsS]
    have hE' : (errF x s.H != 0) = true := bne_iff_ne.2 hE
    generalize errF x s.H = E at *
    clear h hE hd
    go_enter Tryd.func23, Tryd.ntmps23
    go_wp2_with (go_at_call 60; refine hf.mono ?_; rintro e w1 ⟨rfl, hb1⟩)
    go_ret
    exact ⟨rfl, HF.out.below hb1, keep_below hb1⟩

/-- A call of the drains, at any world that a call may have left. -/
theorem FIn.ends (h : FIn w A f e gd s.H s.L s.M) (hv : Inv s.L s.M) (x : ByteArray) : ∃ g, w.cell? ⟨f, 0, none⟩ = some (.pointer (some ⟨g, 0, none⟩)) ∧ Calls Tryd.prog 64 #[.pointer (some ⟨g, 0, none⟩), .string x] w fun r w' => r = .returned (.bool (isIn x s.L || isIn x s.M)) ∧ FIn w' A f e gd s.H (wo x s.L) (wo x s.M) ∧ Keep A w w' := by
  obtain ⟨g, g0, B, hd, -, -, hp⟩ := h.drains
  exact ⟨g, g0, (end_w w B g s.L s.M x hd hv).mono fun r w'' ⟨q1, q2, q3⟩ => ⟨q1, hp w'' _ _ q2 q3⟩⟩
theorem FIn.begins {H : List Hs} {L M : List Dr} (h : FIn w A f e gd H L M) (hv : Inv L M) (x : ByteArray) (d : Int) (hs : x.size ≤ maxLen) (hm : M.length ≤ 4000) : ∃ g, w.cell? ⟨f, 0, none⟩ = some (.pointer (some ⟨g, 0, none⟩)) ∧ Calls Tryd.prog 59 #[.pointer (some ⟨g, 0, none⟩), .string x, .int .i64 d] w fun r w' => r = .returned (.int .i64 (begE x M)) ∧ FIn w' A f e gd H (begL x L M) (begM x d M) ∧ Keep A w w' := by
  obtain ⟨g, g0, B, hd, -, -, hp⟩ := h.drains
  exact ⟨g, g0, (beg_w w B g L M x d hd hv hs hm).mono fun r w'' ⟨q1, q2, q3⟩ => ⟨q1, hp w'' _ _ q2 q3⟩⟩
theorem Inv.ended {L M : List Dr} (h : Inv L M) (x : ByteArray) : Inv (wo x L) (wo x M) := (h.wait (x := x)).over

set_option maxHeartbeats 1000000 in
theorem fforce_w (h : FIn w A f e gd s.H s.L s.M) (hv : Inv s.L s.M) (x : ByteArray) (d : Int) (hs : x.size ≤ maxLen) (hm : s.M.length ≤ 4000) :
    Calls Tryd.prog 31 #[.pointer (some ⟨f, 0, none⟩), .string x, .int .i64 d] w fun r w' => r = .returned (.int .i64 (foE x s)) ∧ FIn w' A f e gd (foS x d s).H (foS x d s).L (foS x d s).M ∧ Keep A w w' := by
  have hf := ffind_w h x hs _ _ rfl rfl
  have HF := Hid.mk' h
  by_cases hE : errF x s.H = 0
  · obtain ⟨hnm, hx⟩ := errF_ok hE
    obtain ⟨b, c, c3, hle, hcm, hfl, hb, y1, y2, p0, p1, p2⟩ := h.host hx
    rw [hE, if_pos rfl, (pl_yes hx).1] at hf
    have HT : Hid (∀ w', Below w.heap.size w w' → Calls Tryd.prog 57 #[.pointer (some ⟨f, 0, none⟩), .int .i64 (plN x s.H : Nat), .int .i64 0] w' fun r w'' => r = .returned (.bool (St.did (ofN x s.H).st 0)) ∧ FIn w'' A f e gd (tnH (plN x s.H) 0 s.H) s.L s.M ∧ Keep A w' w'') := fun w' hb => fturn_w (h.below hb) _ p2 0
    have HN : Hid (∀ w', FIn w' A f e gd (tnH (plN x s.H) 0 s.H) s.L s.M → ∃ g, w'.cell? ⟨f, 0, none⟩ = some (.pointer (some ⟨g, 0, none⟩)) ∧ Calls Tryd.prog 64 #[.pointer (some ⟨g, 0, none⟩), .string x] w' fun r w'' => r = .returned (.bool (isIn x s.L || isIn x s.M)) ∧ FIn w'' A f e gd (tnH (plN x s.H) 0 s.H) (wo x s.L) (wo x s.M) ∧ Keep A w' w'') := fun w' h' => FIn.ends (s := ⟨tnH (plN x s.H) 0 s.H, s.L, s.M⟩) h' hv x
    have HG : Hid (∀ w', FIn w' A f e gd (tnH (plN x s.H) 0 s.H) (wo x s.L) (wo x s.M) → ∃ g, w'.cell? ⟨f, 0, none⟩ = some (.pointer (some ⟨g, 0, none⟩)) ∧ Calls Tryd.prog 59 #[.pointer (some ⟨g, 0, none⟩), .string x, .int .i64 d] w' fun r w'' => r = .returned (.int .i64 (begE x (wo x s.M))) ∧ FIn w'' A f e gd (tnH (plN x s.H) 0 s.H) (begL x (wo x s.L) (wo x s.M)) (begM x d (wo x s.M)) ∧ Keep A w' w'') := fun w' h' => h'.begins (hv.ended x) x d hs (Nat.le_trans (wo_len _ _) hm)
    have E1 : Hid ((ofN x s.H).st = 3 → foE x s = 8 ∧ foS x d s = s) := fun hc => by
      have : foE x s = 8 := by unfold foE; rw [if_pos hE, if_pos hc]
      exact ⟨this, by unfold foS; rw [this]; rfl⟩
    have E2 : Hid (¬ (ofN x s.H).st = 3 → foE x s = 0 ∧ foS x d s = ⟨tnH (plN x s.H) 0 s.H, begL x (wo x s.L) (wo x s.M), begM x d (wo x s.M)⟩) := fun hc => by
      have : foE x s = 0 := by unfold foE; rw [if_pos hE, if_neg hc]
      exact ⟨this, by unfold foS; rw [if_pos this]⟩
    unfold maxLen at hcm
    clear h hE hx
    generalize (ofN x s.H).st = t at *
    generalize tnH (plN x s.H) 0 s.H = H2 at *
    generalize plN x s.H = p at *
    generalize s.H.length = n at *
    by_cases h3 : t = 3
    · have E3 := Hid.mk' (E1.out h3)
      subst h3
      clear E1 E2
      go_enter Tryd.func31, Tryd.ntmps31
      go_wp2_with (go_at_call 60; refine hf.mono ?_; rintro e w1 ⟨rfl, hb1⟩; have z3 := (hb1.cell (p := ⟨f, 3, none⟩) hfl).trans c3; have z1 := (hb1.cell (p := ⟨b, p * 3 + 1, none⟩) hb).trans y1)
      go_ret
      obtain ⟨q1, q2⟩ := E3.out
      rw [q1, q2]
      exact ⟨rfl, HF.out.below hb1, keep_below hb1⟩
    · have E3 := Hid.mk' (E2.out h3)
      have h3' : (t == 3) = false := beq_eq_false_iff_ne.2 h3
      clear E1 E2
      go_enter Tryd.func31, Tryd.ntmps31
      go_wp2_with (first
        | (go_at_call 60; refine hf.mono ?_; rintro e w1 ⟨rfl, hb1⟩; have z3 := (hb1.cell (p := ⟨f, 3, none⟩) hfl).trans c3; have z1 := (hb1.cell (p := ⟨b, p * 3 + 1, none⟩) hb).trans y1; have ht := HT.out w1 hb1)
        | (go_at_call 57; refine ht.mono ?_; rintro e w2 ⟨rfl, hf2, hk2⟩; obtain ⟨g, g0, ha⟩ := HN.out w2 hf2)
        | (go_at_call 64; refine ha.mono ?_; rintro e w3 ⟨rfl, hf3, hk3⟩; obtain ⟨g', g0', ha'⟩ := HG.out w3 hf3)
        | (go_at_call 59; refine ha'.mono ?_; rintro e w4 ⟨rfl, hf4, hk4⟩))
      go_ret
      obtain ⟨q1, q2⟩ := E3.out
      rw [q1, q2]
      exact ⟨rfl, hf4, ((keep_below hb1).trans hk2).trans (hk3.trans hk4)⟩
  · have hd : foE x s = errF x s.H := by unfold foE; rw [if_neg hE]
    have hsS : foS x d s = s := by unfold foS; rw [hd, if_neg hE]
    rw [if_neg hE] at hf
    rw [hd, hsS]
    have hE' : (errF x s.H != 0) = true := bne_iff_ne.2 hE
    generalize errF x s.H = E at *
    clear h hE hd
    go_enter Tryd.func31, Tryd.ntmps31
    go_wp2_with (go_at_call 60; refine hf.mono ?_; rintro e w1 ⟨rfl, hb1⟩)
    go_ret
    exact ⟨rfl, HF.out.below hb1, keep_below hb1⟩

set_option maxHeartbeats 1000000 in
theorem feject_w (h : FIn w A f e gd s.H s.L s.M) (x : ByteArray) (hs : x.size ≤ maxLen) (hl : s.H.length ≤ 4000) :
    Calls Tryd.prog 33 #[.pointer (some ⟨f, 0, none⟩), .string x] w fun r w' => r = .returned (.int .i64 (ejE x e gd s)) ∧ FIn w' A f e gd (ejS x e gd s).H (ejS x e gd s).L (ejS x e gd s).M ∧ Keep A w w' := by
  have hf := ffind_w h x hs _ _ rfl rfl
  have HF := Hid.mk' h
  by_cases hE : errF x s.H = 0
  · obtain ⟨hnm, hx⟩ := errF_ok hE
    obtain ⟨b, c, c3, hle, hcm, hfl, hb, y1, y2, p0, p1, p2⟩ := h.host hx
    rw [hE, if_pos rfl, (pl_yes hx).1] at hf
    have HY : Hid (∀ w', Below w.heap.size w w' → Calls Tryd.prog 56 #[.pointer (some ⟨f, 0, none⟩), .string x] w' fun r w'' => r = .returned (.bool (mayF x s.H e gd)) ∧ Below w'.heap.size w' w'') := fun w' hb => fmay_w (h.below hb) hl x
    have HT : Hid (∀ w', Below w.heap.size w w' → Calls Tryd.prog 57 #[.pointer (some ⟨f, 0, none⟩), .int .i64 (plN x s.H : Nat), .int .i64 2] w' fun r w'' => r = .returned (.bool (St.did (ofN x s.H).st 2)) ∧ FIn w'' A f e gd (tnH (plN x s.H) 2 s.H) s.L s.M ∧ Keep A w' w'') := fun w' hb => fturn_w (h.below hb) _ p2 2
    have E1 : Hid (¬ (ofN x s.H).st = 0 → ejE x e gd s = 8 ∧ ejS x e gd s = s) := fun hc => by
      have : ejE x e gd s = 8 := by unfold ejE; rw [if_pos hE, if_neg hc]
      exact ⟨this, by unfold ejS; rw [this]; rfl⟩
    have E2 : Hid ((ofN x s.H).st = 0 → mayF x s.H e gd = false → ejE x e gd s = 9 ∧ ejS x e gd s = s) := fun hc hy => by
      have : ejE x e gd s = 9 := by unfold ejE; rw [if_pos hE, if_pos hc, hy]; rfl
      exact ⟨this, by unfold ejS; rw [this]; rfl⟩
    have E3 : Hid ((ofN x s.H).st = 0 → mayF x s.H e gd = true → ejE x e gd s = 0 ∧ ejS x e gd s = ⟨tnH (plN x s.H) 2 s.H, s.L, s.M⟩) := fun hc hy => by
      have : ejE x e gd s = 0 := by unfold ejE; rw [if_pos hE, if_pos hc, if_pos hy]
      exact ⟨this, by unfold ejS; rw [if_pos this]⟩
    unfold maxLen at hcm
    clear h hE hx
    generalize mayF x s.H e gd = y at *
    generalize (ofN x s.H).st = t at *
    generalize tnH (plN x s.H) 2 s.H = H2 at *
    generalize plN x s.H = p at *
    generalize s.H.length = n at *
    by_cases h0 : t = 0
    · cases y with
      | false =>
        have E4 := Hid.mk' (E2.out h0 rfl)
        subst h0
        clear E1 E2 E3
        go_enter Tryd.func33, Tryd.ntmps33
        go_wp2_with (first
          | (go_at_call 60; refine hf.mono ?_; rintro e w1 ⟨rfl, hb1⟩; have z3 := (hb1.cell (p := ⟨f, 3, none⟩) hfl).trans c3; have z1 := (hb1.cell (p := ⟨b, p * 3 + 1, none⟩) hb).trans y1; have hy := HY.out w1 hb1)
          | (go_at_call 56; refine hy.mono ?_; rintro e w2 ⟨rfl, hb2⟩))
        go_ret
        obtain ⟨q1, q2⟩ := E4.out
        rw [q1, q2]
        have hb3 := hb1.trans (hb2.mono hb1.size)
        exact ⟨rfl, HF.out.below hb3, keep_below hb3⟩
      | true =>
        have E4 := Hid.mk' (E3.out h0 rfl)
        subst h0
        clear E1 E2 E3
        go_enter Tryd.func33, Tryd.ntmps33
        go_wp2_with (first
          | (go_at_call 60; refine hf.mono ?_; rintro e w1 ⟨rfl, hb1⟩; have z3 := (hb1.cell (p := ⟨f, 3, none⟩) hfl).trans c3; have z1 := (hb1.cell (p := ⟨b, p * 3 + 1, none⟩) hb).trans y1; have hy := HY.out w1 hb1)
          | (go_at_call 56; refine hy.mono ?_; rintro e w2 ⟨rfl, hb2⟩; have ht := HT.out w2 (hb1.trans (hb2.mono hb1.size)))
          | (go_at_call 57; refine ht.mono ?_; rintro e w3 ⟨rfl, hf3, hk3⟩))
        go_ret
        obtain ⟨q1, q2⟩ := E4.out
        rw [q1, q2]
        have hb3 := hb1.trans (hb2.mono hb1.size)
        exact ⟨rfl, hf3, (keep_below hb3).trans hk3⟩
    · have E4 := Hid.mk' (E1.out h0)
      have h0' : (t != 0) = true := bne_iff_ne.2 h0
      clear E1 E2 E3 h0
      go_enter Tryd.func33, Tryd.ntmps33
      go_wp2_with (first
        | (go_at_call 60; refine hf.mono ?_; rintro e w1 ⟨rfl, hb1⟩; have z3 := (hb1.cell (p := ⟨f, 3, none⟩) hfl).trans c3; have z1 := (hb1.cell (p := ⟨b, p * 3 + 1, none⟩) hb).trans y1))
      go_ret
      obtain ⟨q1, q2⟩ := E4.out
      rw [q1, q2]
      exact ⟨rfl, HF.out.below hb1, keep_below hb1⟩
  · have hd : ejE x e gd s = errF x s.H := by unfold ejE; rw [if_neg hE]
    have hsS : ejS x e gd s = s := by unfold ejS; rw [hd, if_neg hE]
    rw [if_neg hE] at hf
    rw [hd, hsS]
    have hE' : (errF x s.H != 0) = true := bne_iff_ne.2 hE
    generalize errF x s.H = E at *
    clear h hE hd
    go_enter Tryd.func33, Tryd.ntmps33
    go_wp2_with (go_at_call 60; refine hf.mono ?_; rintro e w1 ⟨rfl, hb1⟩)
    go_ret
    exact ⟨rfl, HF.out.below hb1, keep_below hb1⟩

theorem tnH_still {x : ByteArray} {H : List Hs} {ev : Int} (hx : isH x H = true) (h : St.did (ofN x H).st ev = false) : tnH (plN x H) ev H = H := by
  unfold tnH
  have e : St.nx (atH H (plN x H)).st ev = (atH H (plN x H)).st := St.nx_still h
  rw [e]
  exact setS_self (pl_yes hx).2

theorem fprobe_w (h : FIn w A f e gd s.H s.L s.M) (x : ByteArray) :
    Calls Tryd.prog 38 #[.pointer (some ⟨f, 0, none⟩), .string x] w fun r w' => r = .returned (.bool (prB x s)) ∧ FIn w' A f e gd (prS x s).H (prS x s).L (prS x s).M ∧ Keep A w w' := by
  have hp := fplace_w h x
  have HF := Hid.mk' h
  cases hx : isH x s.H with
  | false =>
    rw [pl_no hx] at hp
    have e1 : prB x s = false := by unfold prB; rw [hx]; rfl
    have e2 : prS x s = s := by unfold prS; rw [e1]; rfl
    rw [e1, e2]
    clear h
    go_enter Tryd.func38, Tryd.ntmps38
    go_wp2_with (first
      | (go_at_call 58; refine hp.mono ?_; rintro e w2 ⟨rfl, hb2⟩)
      | (go_at_call 57; refine (fturn_no _ _ _).mono ?_; rintro e w' ⟨rfl, hw'⟩; subst w'))
    go_ret
    exact ⟨rfl, HF.out.below hb2, keep_below hb2⟩
  | true =>
    rw [(pl_yes hx).1] at hp
    have HT : Hid (∀ w', Below w.heap.size w w' → Calls Tryd.prog 57 #[.pointer (some ⟨f, 0, none⟩), .int .i64 (plN x s.H : Nat), .int .i64 3] w' fun r w'' => r = .returned (.bool (St.did (ofN x s.H).st 3)) ∧ FIn w'' A f e gd (tnH (plN x s.H) 3 s.H) s.L s.M ∧ Keep A w' w'') := fun w' hb => fturn_w (h.below hb) _ (pl_yes hx).2 3
    have e1 : prB x s = St.did (ofN x s.H).st 3 := by unfold prB; rw [hx]; rfl
    have e2 : prS x s = ⟨tnH (plN x s.H) 3 s.H, s.L, s.M⟩ := by
      unfold prS
      rw [e1]
      split
      · rfl
      · rename_i hd
        rw [tnH_still hx (by simpa using hd)]
    rw [e1, e2]
    generalize St.did (ofN x s.H).st 3 = b at *
    generalize tnH (plN x s.H) 3 s.H = H2 at *
    generalize plN x s.H = p at *
    clear h hx e1 e2
    go_enter Tryd.func38, Tryd.ntmps38
    go_wp2_with (first
      | (go_at_call 58; refine hp.mono ?_; rintro e w2 ⟨rfl, hb2⟩; have ht := HT.out w2 hb2)
      | (go_at_call 57; refine ht.mono ?_; rintro e w3 ⟨rfl, hf3, hk3⟩))
    go_ret
    exact ⟨rfl, hf3, (keep_below hb2).trans hk3⟩
end

end Go.Proofs.YtmlkpfkeeifgeaaDoor
