/-
  What the document's own Warm and All do, each as a contract. Conditions: the hosts lie where they are said to lie, their numbers within 1000.
-/
import Derived.Test.YtdiifnakmemadaaROpen
import Derived.Deep.RegionHeld3
namespace Go.Proofs.Ytdiifnakmemadaa
open Go.ChangeShapes Go.WideShapes Go.ChangeAt Go.RowKit

set_option maxHeartbeats 1000000 in
set_option maxRecDepth 100000 in
theorem RWarm_any (w : World) (a : Option Addr) (len cap : Nat) (hs : List Hs) (each warm : Int) (h : HostsAt w a len cap hs) (hsm : Small hs) :
    Calls Try.prog 15 #[.slice a len cap, .int .i64 each, .int .i64 warm] w fun e w' => e = .returned (ans (fstO (warmH each warm) hs)) ∧ Below w.heap.size w w' := by
  have hle := h.hle
  have hc := h.hcap
  have hl := h.hlen
  unfold maxLen at hc
  have HH := Hid.mk' h
  obtain ⟨F, hF⟩ : ∃ F, fst (warmH each warm) hs = F := ⟨_, rfl⟩
  have hfl : F ≤ len := by rw [← hF, ← hl]; exact fst_le _ _
  have HLT : Hid (∀ j, j < F → warmH each warm (hs.getD j z0) = false) := fun j hj => fst_lt _ _ j (by omega)
  have HAT : Hid (F < len → warmH each warm (hs.getD F z0) = true) := fun hj => by
    have := fst_at (warmH each warm) hs (by omega)
    rw [hF] at this
    exact this
  have HA : Hid ((F < len → ans (fstO (warmH each warm) hs) = .tuple #[.int .i64 (F : Int), .bool true]) ∧ (¬ F < len → ans (fstO (warmH each warm) hs) = .tuple #[.int .i64 0, .bool false])) := by
    refine ⟨fun h1 => ?_, fun h1 => ?_⟩
    · unfold fstO
      rw [hl, hF, if_pos h1]
      rfl
    · unfold fstO
      rw [hl, hF, if_neg h1]
      rfl
  generalize ans (fstO (warmH each warm) hs) = A at *
  clear h hF hl
  go_enter Try.func15, Try.ntmps15
  go_wp2
  go_loopw [8] (fun v8 wr => ∃ i : Nat, v8 = .int .i64 i ∧ i ≤ F ∧ Below w.heap.size w wr) (fun v8 _ => len + 1 - (intOf v8).toNat)
  case atStart => exact ⟨0, rfl, Nat.zero_le _, Below.refl _ _⟩
  case round =>
    obtain ⟨i, rfl, hi, hbl⟩ := hrel
    by_cases h1 : i < len
    · obtain ⟨b, off, rfl, hlt, hc5⟩ := (HH.out.below hbl).rd i h1
      have hs1 := hsm.at_ (hs := hs) i
      have H1 : Hid (i < F → warmH each warm (hs.getD i z0) = false) := fun h => HLT.out i h
      have H2 : Hid (i = F → warmH each warm (hs.getD i z0) = true) := fun h => by subst h; exact HAT.out h1
      generalize hs.getD i z0 = h at *
      obtain ⟨s, m, d, bz, y⟩ := h
      have HO : Hid (H6 w b (off + i * 5) s m d bz y wr) := by
        obtain ⟨c0, c1, c2, c3, c4⟩ := hc5
        exact ⟨c0, c1, c2, c3, c4, hbl⟩
      obtain ⟨m0, m1, d0, d1, b0, b1⟩ := hs1
      simp only [] at m0 m1 d0 d1 b0 b1
      have HT1 : Hid (∀ w', _) := fun w' => rsum5 s m d bz y w' (by omega) (by omega) (by omega)
      have hown := ownH_of s m d bz y (by omega) (by omega)
      obtain ⟨M1, q1⟩ : ∃ M1, (if m < 0 then 0 else m) = M1 := ⟨_, rfl⟩
      obtain ⟨D1, q2⟩ : ∃ D1, (if d < 0 then 0 else d) = D1 := ⟨_, rfl⟩
      have e1 : max m 0 = M1 := by omega
      have e2 : max d 0 = D1 := by omega
      have bM : 0 ≤ M1 ∧ M1 ≤ 1000 := by omega
      have bD : 0 ≤ D1 ∧ D1 ≤ 1000 := by omega
      obtain ⟨O1, hO1⟩ : ∃ O1, M1 + D1 = O1 := ⟨_, rfl⟩
      have hwr : IntKind.i64.wrap (M1 + D1) = O1 := by
        rw [← hO1]
        simp only [IntKind.wrap, IntKind.signed, IntKind.bits, Bool.true_and, ge_iff_le, decide_eq_true_eq]
        split <;> omega
      have hwr2 : IntKind.i64.wrap O1 = O1 := by rw [← hwr, hwr, ← hO1]; rw [hO1]; rw [← hwr]; rw [hwr]; rw [← hO1]; simp only [IntKind.wrap, IntKind.signed, IntKind.bits, Bool.true_and, ge_iff_le, decide_eq_true_eq]; split <;> omega
      rw [e1, e2, hO1] at hown
      have HB := Hid.mk' hbl
      have hkn : (i : Int) < (len : Int) := by omega
      clear hbl hc5 e1 e2
      obtain ⟨T1, hT1⟩ : ∃ T1, allH ⟨s, m, d, bz, y⟩ = T1 := ⟨_, rfl⟩
      have hwm : warmH each warm ⟨s, m, d, bz, y⟩ = (s == 0 && y && decide (T1 < each) && decide (O1 < warm)) := by
        unfold warmH opensH
        rw [hown, hT1]
      rw [hT1] at HT1
      rw [hwm] at H1 H2
      clear hwm hown hT1
      by_cases h2 : i < F
      · have H3 := Hid.mk' (H1.out h2)
        clear H1 H2 HAT HLT HA
        cases hs0 : (s == 0) with
        | false =>
          obtain ⟨c0, c1, c2, c3, c4, -⟩ := HO.out
          clear H3
          go_wp2_with fail
          go_quiet (fail)
          go_wp2
          exact ⟨⟨i + 1, by simp, by omega, below_trans HB.out (below_drewN _ _)⟩, by simp [intOf]; omega⟩
        | true =>
          cases y with
          | false =>
            obtain ⟨c0, c1, c2, c3, c4, -⟩ := HO.out
            clear H3
            go_wp2_with fail
            go_quiet (fail)
            go_wp2
            exact ⟨⟨i + 1, by simp, by omega, below_trans HB.out (below_drewN _ _)⟩, by simp [intOf]; omega⟩
          | true =>
            by_cases hte : T1 < each
            · have hno2 : ¬ O1 < warm := by
                intro h
                have := H3.out
                rw [hs0, decide_eq_true hte, decide_eq_true h] at this
                cases this
              have hno3 : decide (O1 < warm) = false := decide_eq_false hno2
              clear H3
              go_wp2_with fail
              have hS : H6 w b (off + i * 5) s m d bz true wr.drew := HO.out.below (Below.refl _ _).drew
              unfold H6 at hS
              go_region_held3 (fun w' => w'.cell? ⟨b, off + i * 5, none⟩ = some (.int .i64 s) ∧ w'.cell? ⟨b, off + i * 5 + 1, none⟩ = some (.int .i64 m) ∧ w'.cell? ⟨b, off + i * 5 + 2, none⟩ = some (.int .i64 d) ∧ w'.cell? ⟨b, off + i * 5 + 3, none⟩ = some (.int .i64 bz) ∧ w'.cell? ⟨b, off + i * 5 + 4, none⟩ = some (.bool true) ∧ Below w.heap.size w w')
                (first | assumption | exact H6.below (by assumption) hbx | go_keep)
                (first | (go_at_call 27; refine (HT1.out _).mono ?_; rintro e w5 ⟨rfl, hbx⟩))
              all_goals (
                have hE : H6 w b (off + i * 5) s m d bz true w5 := by assumption
                have HF := Hid.mk' hE.2.2.2.2.2
                clear hE hS hbx HO HT1
                go_wp2
                exact ⟨⟨i + 1, by simp, by omega, HF.out⟩, by simp [intOf]; omega⟩)
            · have hte2 : decide (T1 < each) = false := decide_eq_false hte
              clear H3
              go_wp2_with fail
              refine wp_region_held_drew (S := fun w' => w'.cell? ⟨b, off + i * 5, none⟩ = some (.int .i64 s) ∧ w'.cell? ⟨b, off + i * 5 + 1, none⟩ = some (.int .i64 m) ∧ w'.cell? ⟨b, off + i * 5 + 2, none⟩ = some (.int .i64 d) ∧ w'.cell? ⟨b, off + i * 5 + 3, none⟩ = some (.int .i64 bz) ∧ w'.cell? ⟨b, off + i * 5 + 4, none⟩ = some (.bool true) ∧ Below w.heap.size w w') (by kernel_rfl) ?_ (fun hHeld => ?_)
              · exact HO.out.below (Below.refl _ _).drew
              refine wpAnyH_take (i := 0) (oi := { dst := some 15, op := Op.move (Operand.tmp 0), type := 22, pos := "ref.go:38", after := #[], guard := none }) (v := ?_) rfl (by kernel_rfl) (by kernel_rfl) (by kernel_rfl) (fun _ _ _ h => h) (Or.inl ⟨by rfl, ?_⟩) (by assumption) ?_
              rotate_left
              · intro w hSw
                try dsimp only at hSw
                go_simp
                first | done | with_reducible rfl
              try simp only [Act.put, List.setIfInBounds_toArray, List.set_cons_zero, List.set_cons_succ]
              refine wpAnyH_take (i := 1) (oi := { dst := some 16, op := Op.move (Operand.tmp 8), type := 3, pos := "ref.go:38", after := #[], guard := none }) (v := ?_) rfl (by kernel_rfl) (by kernel_rfl) (by kernel_rfl) (fun _ _ _ h => h) (Or.inl ⟨by rfl, ?_⟩) (by assumption) ?_
              rotate_left
              · intro w hSw
                try dsimp only at hSw
                go_simp
                first | done | with_reducible rfl
              try simp only [Act.put, List.setIfInBounds_toArray, List.set_cons_zero, List.set_cons_succ]
              refine wpAnyH_take (i := 2) (oi := { dst := some 17, op := Op.indexAddr 22 (Operand.tmp 15) (Operand.tmp 16), type := 0, pos := "ref.go:38", after := #[{ on := 0, ground := Ground.data }, { on := 1, ground := Ground.data }], guard := none }) (v := ?_) rfl (by kernel_rfl) (by kernel_rfl) (by kernel_rfl) (fun _ _ _ h => h) (Or.inl ⟨by rfl, ?_⟩) (by assumption) ?_
              rotate_left
              · intro w hSw
                try dsimp only at hSw
                go_simp
                first | done | with_reducible rfl
              try simp only [Act.put, List.setIfInBounds_toArray, List.set_cons_zero, List.set_cons_succ]
              refine wpAnyH_take (i := 3) (oi := { dst := some 18, op := Op.fieldAddr 43 (Operand.tmp 17) 0, type := 0, pos := "ref.go:38", after := #[{ on := 2, ground := Ground.data }], guard := none }) (v := ?_) rfl (by kernel_rfl) (by kernel_rfl) (by kernel_rfl) (fun _ _ _ h => h) (Or.inl ⟨by rfl, ?_⟩) (by assumption) ?_
              rotate_left
              · intro w hSw
                try dsimp only at hSw
                go_simp
                first | done | with_reducible rfl
              try simp only [Act.put, List.setIfInBounds_toArray, List.set_cons_zero, List.set_cons_succ]
              refine wpAnyH_take (i := 4) (oi := { dst := some 19, op := Op.load 3 (Operand.tmp 18), type := 3, pos := "ref.go:38", after := #[{ on := 3, ground := Ground.data }], guard := none }) (v := ?_) rfl (by kernel_rfl) (by kernel_rfl) (by kernel_rfl) (fun _ _ _ h => h) (Or.inl ⟨by rfl, ?_⟩) (by assumption) ?_
              rotate_left
              · intro w hSw
                try dsimp only at hSw
                go_simp
                first | done | with_reducible rfl
              try simp only [Act.put, List.setIfInBounds_toArray, List.set_cons_zero, List.set_cons_succ]
              refine wpAnyH_take (i := 5) (oi := { dst := some 20, op := Op.binOp BinOp.eql 3 (Operand.tmp 19) (Operand.const (Value.int IntKind.i64 0)) 3, type := 4, pos := "ref.go:38", after := #[{ on := 4, ground := Ground.data }], guard := none }) (v := ?_) rfl (by kernel_rfl) (by kernel_rfl) (by kernel_rfl) (fun _ _ _ h => h) (Or.inl ⟨by rfl, ?_⟩) (by assumption) ?_
              rotate_left
              · intro w hSw
                try dsimp only at hSw
                go_simp
                first | done | with_reducible rfl
              try simp only [Act.put, List.setIfInBounds_toArray, List.set_cons_zero, List.set_cons_succ]
              refine wpAnyH_take (i := 6) (oi := { dst := some 21, op := Op.move (Operand.tmp 20), type := 4, pos := "ref.go:38", after := #[{ on := 5, ground := Ground.data }], guard := none }) (v := ?_) rfl (by kernel_rfl) (by kernel_rfl) (by kernel_rfl) (fun _ _ _ h => h) (Or.inl ⟨by rfl, ?_⟩) (by assumption) ?_
              rotate_left
              · intro w hSw
                try dsimp only at hSw
                go_simp
                first | done | with_reducible rfl
              try simp only [Act.put, List.setIfInBounds_toArray, List.set_cons_zero, List.set_cons_succ]
              refine wpAnyH_take (i := 7) (oi := { dst := some 22, op := Op.move (Operand.tmp 0), type := 22, pos := "ref.go:38", after := #[{ on := 6, ground := Ground.guard }], guard := some (6, true) }) (v := ?_) rfl (by kernel_rfl) (by kernel_rfl) (by kernel_rfl) (fun _ _ _ h => h) (Or.inl ⟨by rfl, ?_⟩) (by assumption) ?_
              rotate_left
              · intro w hSw
                try dsimp only at hSw
                go_simp
                first | done | with_reducible rfl
              try simp only [Act.put, List.setIfInBounds_toArray, List.set_cons_zero, List.set_cons_succ]
              refine wpAnyH_take (i := 8) (oi := { dst := some 23, op := Op.move (Operand.tmp 8), type := 3, pos := "ref.go:38", after := #[{ on := 6, ground := Ground.guard }], guard := some (6, true) }) (v := ?_) rfl (by kernel_rfl) (by kernel_rfl) (by kernel_rfl) (fun _ _ _ h => h) (Or.inl ⟨by rfl, ?_⟩) (by assumption) ?_
              rotate_left
              · intro w hSw
                try dsimp only at hSw
                go_simp
                first | done | with_reducible rfl
              try simp only [Act.put, List.setIfInBounds_toArray, List.set_cons_zero, List.set_cons_succ]
              refine wpAnyH_take (i := 9) (oi := { dst := some 24, op := Op.indexAddr 22 (Operand.tmp 22) (Operand.tmp 23), type := 0, pos := "ref.go:38", after := #[{ on := 7, ground := Ground.data }, { on := 8, ground := Ground.data }, { on := 6, ground := Ground.guard }], guard := some (6, true) }) (v := ?_) rfl (by kernel_rfl) (by kernel_rfl) (by kernel_rfl) (fun _ _ _ h => h) (Or.inl ⟨by rfl, ?_⟩) (by assumption) ?_
              rotate_left
              · intro w hSw
                try dsimp only at hSw
                go_simp
                first | done | with_reducible rfl
              try simp only [Act.put, List.setIfInBounds_toArray, List.set_cons_zero, List.set_cons_succ]
              refine wpAnyH_take (i := 10) (oi := { dst := some 25, op := Op.fieldAddr 43 (Operand.tmp 24) 4, type := 0, pos := "ref.go:38", after := #[{ on := 9, ground := Ground.data }, { on := 6, ground := Ground.guard }], guard := some (6, true) }) (v := ?_) rfl (by kernel_rfl) (by kernel_rfl) (by kernel_rfl) (fun _ _ _ h => h) (Or.inl ⟨by rfl, ?_⟩) (by assumption) ?_
              rotate_left
              · intro w hSw
                try dsimp only at hSw
                go_simp
                first | done | with_reducible rfl
              try simp only [Act.put, List.setIfInBounds_toArray, List.set_cons_zero, List.set_cons_succ]
              refine wpAnyH_take (i := 11) (oi := { dst := some 26, op := Op.load 4 (Operand.tmp 25), type := 4, pos := "ref.go:38", after := #[{ on := 10, ground := Ground.data }, { on := 6, ground := Ground.guard }], guard := some (6, true) }) (v := ?_) rfl (by kernel_rfl) (by kernel_rfl) (by kernel_rfl) (fun _ _ _ h => h) (Or.inl ⟨by rfl, ?_⟩) (by assumption) ?_
              rotate_left
              · intro w hSw
                try dsimp only at hSw
                go_simp
                first | done | with_reducible rfl
              try simp only [Act.put, List.setIfInBounds_toArray, List.set_cons_zero, List.set_cons_succ]
              refine wpAnyH_take (i := 12) (oi := { dst := some 27, op := Op.pick (Operand.tmp 21) (Operand.tmp 26) (Operand.const (Value.bool false)), type := 4, pos := "ref.go:38", after := #[{ on := 6, ground := Ground.data }, { on := 11, ground := Ground.data }], guard := none }) (v := ?_) rfl (by kernel_rfl) (by kernel_rfl) (by kernel_rfl) (fun _ _ _ h => h) (Or.inl ⟨by rfl, ?_⟩) (by assumption) ?_
              rotate_left
              · intro w hSw
                try dsimp only at hSw
                go_simp
                first | done | with_reducible rfl
              try simp only [Act.put, List.setIfInBounds_toArray, List.set_cons_zero, List.set_cons_succ]
              refine wpAnyH_take (i := 13) (oi := { dst := some 28, op := Op.move (Operand.tmp 27), type := 4, pos := "ref.go:38", after := #[{ on := 12, ground := Ground.data }, { on := 6, ground := Ground.chain }], guard := none }) (v := ?_) rfl (by kernel_rfl) (by kernel_rfl) (by kernel_rfl) (fun _ _ _ h => h) (Or.inl ⟨by rfl, ?_⟩) (by assumption) ?_
              rotate_left
              · intro w hSw
                try dsimp only at hSw
                go_simp
                first | done | with_reducible rfl
              try simp only [Act.put, List.setIfInBounds_toArray, List.set_cons_zero, List.set_cons_succ]
              refine wpAnyH_take (i := 14) (oi := { dst := some 29, op := Op.move (Operand.tmp 0), type := 22, pos := "ref.go:38", after := #[{ on := 13, ground := Ground.guard }], guard := some (13, true) }) (v := ?_) rfl (by kernel_rfl) (by kernel_rfl) (by kernel_rfl) (fun _ _ _ h => h) (Or.inl ⟨by rfl, ?_⟩) (by assumption) ?_
              rotate_left
              · intro w hSw
                try dsimp only at hSw
                go_simp
                first | done | with_reducible rfl
              try simp only [Act.put, List.setIfInBounds_toArray, List.set_cons_zero, List.set_cons_succ]
              refine wpAnyH_take (i := 15) (oi := { dst := some 30, op := Op.move (Operand.tmp 8), type := 3, pos := "ref.go:38", after := #[{ on := 13, ground := Ground.guard }], guard := some (13, true) }) (v := ?_) rfl (by kernel_rfl) (by kernel_rfl) (by kernel_rfl) (fun _ _ _ h => h) (Or.inl ⟨by rfl, ?_⟩) (by assumption) ?_
              rotate_left
              · intro w hSw
                try dsimp only at hSw
                go_simp
                first | done | with_reducible rfl
              try simp only [Act.put, List.setIfInBounds_toArray, List.set_cons_zero, List.set_cons_succ]
              refine wpAnyH_take (i := 16) (oi := { dst := some 31, op := Op.indexAddr 22 (Operand.tmp 29) (Operand.tmp 30), type := 0, pos := "ref.go:38", after := #[{ on := 14, ground := Ground.data }, { on := 15, ground := Ground.data }, { on := 13, ground := Ground.guard }], guard := some (13, true) }) (v := ?_) rfl (by kernel_rfl) (by kernel_rfl) (by kernel_rfl) (fun _ _ _ h => h) (Or.inl ⟨by rfl, ?_⟩) (by assumption) ?_
              rotate_left
              · intro w hSw
                try dsimp only at hSw
                go_simp
                first | done | with_reducible rfl
              try simp only [Act.put, List.setIfInBounds_toArray, List.set_cons_zero, List.set_cons_succ]
              refine wpAnyH_take (i := 17) (oi := { dst := some 32, op := Op.load 43 (Operand.tmp 31), type := 43, pos := "ref.go:38", after := #[{ on := 16, ground := Ground.data }, { on := 13, ground := Ground.guard }], guard := some (13, true) }) (v := ?_) rfl (by kernel_rfl) (by kernel_rfl) (by kernel_rfl) (fun _ _ _ h => h) (Or.inl ⟨by rfl, ?_⟩) (by assumption) ?_
              rotate_left
              · intro w hSw
                try dsimp only at hSw
                go_simp
                first | done | with_reducible rfl
              try simp only [Act.put, List.setIfInBounds_toArray, List.set_cons_zero, List.set_cons_succ]
              refine wpAnyH_take (i := 19) (oi := { dst := some 34, op := Op.move (Operand.tmp 1), type := 3, pos := "ref.go:38", after := #[{ on := 13, ground := Ground.guard }], guard := some (13, true) }) (v := ?_) rfl (by kernel_rfl) (by kernel_rfl) (by kernel_rfl) (fun _ _ _ h => h) (Or.inl ⟨by rfl, ?_⟩) (by assumption) ?_
              rotate_left
              · intro w hSw
                try dsimp only at hSw
                go_simp
                first | done | with_reducible rfl
              try simp only [Act.put, List.setIfInBounds_toArray, List.set_cons_zero, List.set_cons_succ]
              refine wpAnyH_ready (rs := [18]) (by kernel_rfl) (by simp) ?_
              refine AllReadyH.cons (o := { dst := some 33, op := Op.call { callee := Callee.value (Operand.func 27), args := #[Operand.tmp 32], argTypes := #[43] }, type := 3, pos := "ref.go:38", after := #[{ on := 17, ground := Ground.data }, { on := 13, ground := Ground.chain }, { on := 13, ground := Ground.guard }], guard := some (13, true) }) rfl (fun K hK => ?_) AllReadyH.nil
              go_simp
              (go_at_call 27; refine (HT1.out _).mono ?_; rintro e w5 ⟨rfl, hbx⟩)
              try go_wp2_with fail
              refine hK.out _ _ ?_ (fun hHeld => ?_)
              · exact H6.below (by assumption) hbx
              clear hK K
              try simp only [Act.put, List.setIfInBounds_toArray, List.set_cons_zero, List.set_cons_succ]
              refine wpAnyH_take (i := 20) (oi := { dst := some 35, op := Op.binOp BinOp.lss 3 (Operand.tmp 33) (Operand.tmp 34) 3, type := 4, pos := "ref.go:38", after := #[{ on := 18, ground := Ground.data }, { on := 19, ground := Ground.data }, { on := 13, ground := Ground.guard }], guard := some (13, true) }) (v := ?_) rfl (by kernel_rfl) (by kernel_rfl) (by kernel_rfl) (fun _ _ _ h => h) (Or.inl ⟨by rfl, ?_⟩) (by assumption) ?_
              rotate_left
              · intro w hSw
                try dsimp only at hSw
                go_simp
                first | done | with_reducible rfl
              try simp only [Act.put, List.setIfInBounds_toArray, List.set_cons_zero, List.set_cons_succ]
              refine wpAnyH_take (i := 21) (oi := { dst := some 36, op := Op.pick (Operand.tmp 28) (Operand.tmp 35) (Operand.const (Value.bool false)), type := 4, pos := "ref.go:38", after := #[{ on := 13, ground := Ground.data }, { on := 20, ground := Ground.data }], guard := none }) (v := ?_) rfl (by kernel_rfl) (by kernel_rfl) (by kernel_rfl) (fun _ _ _ h => h) (Or.inl ⟨by rfl, ?_⟩) (by assumption) ?_
              rotate_left
              · intro w hSw
                try dsimp only at hSw
                go_simp
                first | done | with_reducible rfl
              try simp only [Act.put, List.setIfInBounds_toArray, List.set_cons_zero, List.set_cons_succ]
              refine wpAnyH_take (i := 22) (oi := { dst := some 37, op := Op.move (Operand.tmp 36), type := 4, pos := "ref.go:38", after := #[{ on := 21, ground := Ground.data }, { on := 18, ground := Ground.chain }], guard := none }) (v := ?_) rfl (by kernel_rfl) (by kernel_rfl) (by kernel_rfl) (fun _ _ _ h => h) (Or.inl ⟨by rfl, ?_⟩) (by assumption) ?_
              rotate_left
              · intro w hSw
                try dsimp only at hSw
                go_simp
                first | done | with_reducible rfl
              try simp only [Act.put, List.setIfInBounds_toArray, List.set_cons_zero, List.set_cons_succ]
              refine wpAnyH_take (i := 23) (oi := { dst := some 38, op := Op.move (Operand.tmp 0), type := 22, pos := "ref.go:38", after := #[{ on := 22, ground := Ground.guard }], guard := some (22, true) }) (v := undef) rfl (by kernel_rfl) (by kernel_rfl) (by kernel_rfl) (fun _ _ _ h => h) (Or.inr ⟨by rfl, rfl⟩) (by assumption) ?_
              try simp only [Act.put, List.setIfInBounds_toArray, List.set_cons_zero, List.set_cons_succ]
              refine wpAnyH_take (i := 24) (oi := { dst := some 39, op := Op.move (Operand.tmp 8), type := 3, pos := "ref.go:38", after := #[{ on := 22, ground := Ground.guard }], guard := some (22, true) }) (v := undef) rfl (by kernel_rfl) (by kernel_rfl) (by kernel_rfl) (fun _ _ _ h => h) (Or.inr ⟨by rfl, rfl⟩) (by assumption) ?_
              try simp only [Act.put, List.setIfInBounds_toArray, List.set_cons_zero, List.set_cons_succ]
              refine wpAnyH_take (i := 25) (oi := { dst := some 40, op := Op.indexAddr 22 (Operand.tmp 38) (Operand.tmp 39), type := 0, pos := "ref.go:38", after := #[{ on := 23, ground := Ground.data }, { on := 24, ground := Ground.data }, { on := 22, ground := Ground.guard }], guard := some (22, true) }) (v := undef) rfl (by kernel_rfl) (by kernel_rfl) (by kernel_rfl) (fun _ _ _ h => h) (Or.inr ⟨by rfl, rfl⟩) (by assumption) ?_
              try simp only [Act.put, List.setIfInBounds_toArray, List.set_cons_zero, List.set_cons_succ]
              refine wpAnyH_take (i := 26) (oi := { dst := some 41, op := Op.fieldAddr 43 (Operand.tmp 40) 1, type := 0, pos := "ref.go:38", after := #[{ on := 25, ground := Ground.data }, { on := 22, ground := Ground.guard }], guard := some (22, true) }) (v := undef) rfl (by kernel_rfl) (by kernel_rfl) (by kernel_rfl) (fun _ _ _ h => h) (Or.inr ⟨by rfl, rfl⟩) (by assumption) ?_
              try simp only [Act.put, List.setIfInBounds_toArray, List.set_cons_zero, List.set_cons_succ]
              refine wpAnyH_take (i := 27) (oi := { dst := some 42, op := Op.load 3 (Operand.tmp 41), type := 3, pos := "ref.go:38", after := #[{ on := 26, ground := Ground.data }, { on := 22, ground := Ground.guard }], guard := some (22, true) }) (v := undef) rfl (by kernel_rfl) (by kernel_rfl) (by kernel_rfl) (fun _ _ _ h => h) (Or.inr ⟨by rfl, rfl⟩) (by assumption) ?_
              try simp only [Act.put, List.setIfInBounds_toArray, List.set_cons_zero, List.set_cons_succ]
              refine wpAnyH_take (i := 28) (oi := { dst := some 43, op := Op.call { callee := Callee.builtin Builtin.max, args := #[Operand.tmp 42, Operand.const (Value.int IntKind.i64 0)], argTypes := #[3, 3] }, type := 3, pos := "ref.go:38", after := #[{ on := 27, ground := Ground.data }, { on := 22, ground := Ground.guard }], guard := some (22, true) }) (v := undef) rfl (by kernel_rfl) (by kernel_rfl) (by kernel_rfl) (fun _ _ _ h => h) (Or.inr ⟨by rfl, rfl⟩) (by assumption) ?_
              try simp only [Act.put, List.setIfInBounds_toArray, List.set_cons_zero, List.set_cons_succ]
              refine wpAnyH_take (i := 29) (oi := { dst := some 44, op := Op.move (Operand.tmp 0), type := 22, pos := "ref.go:38", after := #[{ on := 22, ground := Ground.guard }], guard := some (22, true) }) (v := undef) rfl (by kernel_rfl) (by kernel_rfl) (by kernel_rfl) (fun _ _ _ h => h) (Or.inr ⟨by rfl, rfl⟩) (by assumption) ?_
              try simp only [Act.put, List.setIfInBounds_toArray, List.set_cons_zero, List.set_cons_succ]
              refine wpAnyH_take (i := 30) (oi := { dst := some 45, op := Op.move (Operand.tmp 8), type := 3, pos := "ref.go:38", after := #[{ on := 22, ground := Ground.guard }], guard := some (22, true) }) (v := undef) rfl (by kernel_rfl) (by kernel_rfl) (by kernel_rfl) (fun _ _ _ h => h) (Or.inr ⟨by rfl, rfl⟩) (by assumption) ?_
              try simp only [Act.put, List.setIfInBounds_toArray, List.set_cons_zero, List.set_cons_succ]
              refine wpAnyH_take (i := 31) (oi := { dst := some 46, op := Op.indexAddr 22 (Operand.tmp 44) (Operand.tmp 45), type := 0, pos := "ref.go:38", after := #[{ on := 29, ground := Ground.data }, { on := 30, ground := Ground.data }, { on := 22, ground := Ground.guard }], guard := some (22, true) }) (v := undef) rfl (by kernel_rfl) (by kernel_rfl) (by kernel_rfl) (fun _ _ _ h => h) (Or.inr ⟨by rfl, rfl⟩) (by assumption) ?_
              try simp only [Act.put, List.setIfInBounds_toArray, List.set_cons_zero, List.set_cons_succ]
              refine wpAnyH_take (i := 32) (oi := { dst := some 47, op := Op.fieldAddr 43 (Operand.tmp 46) 2, type := 0, pos := "ref.go:38", after := #[{ on := 31, ground := Ground.data }, { on := 22, ground := Ground.guard }], guard := some (22, true) }) (v := undef) rfl (by kernel_rfl) (by kernel_rfl) (by kernel_rfl) (fun _ _ _ h => h) (Or.inr ⟨by rfl, rfl⟩) (by assumption) ?_
              try simp only [Act.put, List.setIfInBounds_toArray, List.set_cons_zero, List.set_cons_succ]
              refine wpAnyH_take (i := 33) (oi := { dst := some 48, op := Op.load 3 (Operand.tmp 47), type := 3, pos := "ref.go:38", after := #[{ on := 32, ground := Ground.data }, { on := 22, ground := Ground.guard }], guard := some (22, true) }) (v := undef) rfl (by kernel_rfl) (by kernel_rfl) (by kernel_rfl) (fun _ _ _ h => h) (Or.inr ⟨by rfl, rfl⟩) (by assumption) ?_
              try simp only [Act.put, List.setIfInBounds_toArray, List.set_cons_zero, List.set_cons_succ]
              refine wpAnyH_take (i := 34) (oi := { dst := some 49, op := Op.call { callee := Callee.builtin Builtin.max, args := #[Operand.tmp 48, Operand.const (Value.int IntKind.i64 0)], argTypes := #[3, 3] }, type := 3, pos := "ref.go:38", after := #[{ on := 33, ground := Ground.data }, { on := 22, ground := Ground.guard }], guard := some (22, true) }) (v := undef) rfl (by kernel_rfl) (by kernel_rfl) (by kernel_rfl) (fun _ _ _ h => h) (Or.inr ⟨by rfl, rfl⟩) (by assumption) ?_
              try simp only [Act.put, List.setIfInBounds_toArray, List.set_cons_zero, List.set_cons_succ]
              refine wpAnyH_take (i := 35) (oi := { dst := some 50, op := Op.binOp BinOp.add 3 (Operand.tmp 43) (Operand.tmp 49) 3, type := 3, pos := "ref.go:38", after := #[{ on := 28, ground := Ground.data }, { on := 34, ground := Ground.data }, { on := 22, ground := Ground.guard }], guard := some (22, true) }) (v := undef) rfl (by kernel_rfl) (by kernel_rfl) (by kernel_rfl) (fun _ _ _ h => h) (Or.inr ⟨by rfl, rfl⟩) (by assumption) ?_
              try simp only [Act.put, List.setIfInBounds_toArray, List.set_cons_zero, List.set_cons_succ]
              refine wpAnyH_take (i := 36) (oi := { dst := some 51, op := Op.move (Operand.tmp 2), type := 3, pos := "ref.go:38", after := #[{ on := 22, ground := Ground.guard }], guard := some (22, true) }) (v := undef) rfl (by kernel_rfl) (by kernel_rfl) (by kernel_rfl) (fun _ _ _ h => h) (Or.inr ⟨by rfl, rfl⟩) (by assumption) ?_
              try simp only [Act.put, List.setIfInBounds_toArray, List.set_cons_zero, List.set_cons_succ]
              refine wpAnyH_take (i := 37) (oi := { dst := some 52, op := Op.binOp BinOp.lss 3 (Operand.tmp 50) (Operand.tmp 51) 3, type := 4, pos := "ref.go:38", after := #[{ on := 35, ground := Ground.data }, { on := 36, ground := Ground.data }, { on := 22, ground := Ground.guard }], guard := some (22, true) }) (v := undef) rfl (by kernel_rfl) (by kernel_rfl) (by kernel_rfl) (fun _ _ _ h => h) (Or.inr ⟨by rfl, rfl⟩) (by assumption) ?_
              try simp only [Act.put, List.setIfInBounds_toArray, List.set_cons_zero, List.set_cons_succ]
              refine wpAnyH_take (i := 38) (oi := { dst := some 53, op := Op.pick (Operand.tmp 37) (Operand.tmp 52) (Operand.const (Value.bool false)), type := 4, pos := "ref.go:38", after := #[{ on := 22, ground := Ground.data }, { on := 37, ground := Ground.data }], guard := none }) (v := ?_) rfl (by kernel_rfl) (by kernel_rfl) (by kernel_rfl) (fun _ _ _ h => h) (Or.inl ⟨by rfl, ?_⟩) (by assumption) ?_
              rotate_left
              · intro w hSw
                try dsimp only at hSw
                go_simp
                first | done | with_reducible rfl
              try simp only [Act.put, List.setIfInBounds_toArray, List.set_cons_zero, List.set_cons_succ]
              refine wpAnyH_done (by kernel_rfl) ?_ _
              have hE : H6 w b (off + i * 5) s m d bz true w5 := by assumption
              have HF := Hid.mk' hE.2.2.2.2.2
              clear hE
              go_wp2
              exact ⟨⟨i + 1, by simp, by omega, HF.out⟩, by simp [intOf]; omega⟩
      · obtain rfl : i = F := by omega
        have h3 := H2.out rfl
        have HA2 := Hid.mk' (HA.out.1 h1)
        clear H1 H2 HAT HLT HA
        simp only [Bool.and_eq_true, decide_eq_true_eq] at h3
        obtain ⟨⟨⟨hs0, rfl⟩, hte⟩, how⟩ := h3
        go_wp2_with fail
        have hS : H6 w b (off + i * 5) s m d bz true wr.drew := HO.out.below (Below.refl _ _).drew
        unfold H6 at hS
        go_region_held3 (fun w' => w'.cell? ⟨b, off + i * 5, none⟩ = some (.int .i64 s) ∧ w'.cell? ⟨b, off + i * 5 + 1, none⟩ = some (.int .i64 m) ∧ w'.cell? ⟨b, off + i * 5 + 2, none⟩ = some (.int .i64 d) ∧ w'.cell? ⟨b, off + i * 5 + 3, none⟩ = some (.int .i64 bz) ∧ w'.cell? ⟨b, off + i * 5 + 4, none⟩ = some (.bool true) ∧ Below w.heap.size w w')
          (first | assumption | exact H6.below (by assumption) hbx | go_keep)
          (first | (go_at_call 27; refine (HT1.out _).mono ?_; rintro e w5 ⟨rfl, hbx⟩))
        all_goals (
          have hE : H6 w b (off + i * 5) s m d bz true w5 := by assumption
          have HF := Hid.mk' hE.2.2.2.2.2
          clear hE hS hbx HO HT1
          go_wp2
          go_ret2
          exact ⟨by rw [HA2.out]; rfl, HF.out⟩)
    · have HB := Hid.mk' hbl
      have HA2 := Hid.mk' (HA.out.2 (by omega))
      clear hbl HA HAT HLT
      go_wp2
      go_ret2
      exact ⟨by rw [HA2.out]; rfl, HB.out⟩

end Go.Proofs.Ytdiifnakmemadaa
