/-
  The least one of a slice of hosts, with the closures of Open, as a contract. Conditions: the slice lies where it is said to lie, and what the closure captured too.
-/
import Derived.Test.YtdiifnakmemadaaLeast
namespace Go.Proofs.Ytdiifnakmemadaa
open Go.ChangeShapes Go.WideShapes Go.ChangeAt Go.RowKit

set_option maxHeartbeats 1000000 in
set_option maxRecDepth 100000 in
theorem least_open (w : World) (a : Option Addr) (len cap : Nat) (hs : List Hs) (h : HostsAt w a len cap hs) (q : Nat) (each : Int) (hq : w.cell? ⟨q, 0, none⟩ = some (.int .i64 each)) :
    Calls Try.prog 24 #[.slice a len cap, .func (.func 30) #[] #[.pointer (some ⟨q, 0, none⟩)], .func (.func 26) #[] #[]] w fun e w' => e = .returned (.tuple #[.int .i64 (plc (lst (opensH each) allH hs len)), .bool (lst (opensH each) allH hs len).isSome]) ∧ Below w.heap.size w w' := by
  have hle := h.hle
  have hc := h.hcap
  unfold maxLen at hc
  have HH := Hid.mk' h
  clear h
  have HQ0 := Hid.mk' hq
  clear hq
  go_enter Try.func24, Try.ntmps24
  go_wp2
  go_loopw [8, 9, 14] (fun v8 v9 v14 wr => ∃ i : Nat, v14 = .int .i64 i ∧ i ≤ len ∧ v8 = .int .i64 (plc (lst (opensH each) allH hs i)) ∧ v9 = .bool (lst (opensH each) allH hs i).isSome ∧ Below w.heap.size w wr) (fun _ _ v14 _ => len + 1 - (intOf v14).toNat)
  case atStart => exact ⟨0, rfl, Nat.zero_le _, rfl, rfl, Below.refl _ _⟩
  case round =>
    obtain ⟨i, rfl, hi, rfl, rfl, hbl⟩ := hrel
    by_cases h1 : i < len
    · obtain ⟨b, off, rfl, hlt, c0, c1, c2, c3, c4⟩ := (HH.out.below hbl).rd i h1
      have hno := lst_no (opensH each) allH hs i
      have hnew := lst_new (opensH each) allH hs i
      have hless := lst_less (opensH each) allH hs i
      have hmore := lst_more (opensH each) allH hs i
      have hplt := lst_lt (opensH each) allH hs i
      have hrp : ∀ p, p < i → HC wr b (off + p * 5) (hs.getD p z0) := fun p hp => by
        obtain ⟨b', off', e, _, hx⟩ := (HH.out.below hbl).rd p (by omega)
        cases e
        exact hx
      generalize hs.getD i z0 = h at *
      obtain ⟨s, m, d, bz, y⟩ := h
      simp only [] at c0 c1 c2 c3 c4
      obtain ⟨W, hW⟩ : ∃ W, W = wr.alloc (.cells #[.int .i64 s, .int .i64 m, .int .i64 d, .int .i64 bz, .bool y] 38) := ⟨_, rfl⟩
      have hbW : Below wr.heap.size wr W := by rw [hW]; exact (Below.refl _ wr).alloc (Nat.le_refl _) _
      obtain ⟨g, hg⟩ : ∃ g, wr.heap.size = g := ⟨_, rfl⟩
      have HO : Hid (O6 w q g (.int .i64 each) s m d bz y W) := by
        rw [← hg, hW]
        exact o6_two w wr q _ s m d bz y hbl HQ0.out
      have HQ : Hid (W.drew.cell? ⟨q, 0, none⟩ = some (.int .i64 each)) := (HO.out.below (Below.refl _ _).drew).1
      have HM : Hid (∀ r, (opensH each) ⟨s, m, d, bz, y⟩ = r → ∀ w', w'.cell? ⟨q, 0, none⟩ = some (.int .i64 each) → Calls Try.prog 30 #[.agg #[.int .i64 s, .int .i64 m, .int .i64 d, .int .i64 bz, .bool y], .pointer (some ⟨q, 0, none⟩)] w' fun e w'' => e = .returned (.bool r) ∧ Below w'.heap.size w' w'') := fun r hr w' h => hr ▸ open_any s m d bz y q each w' h
      have HB := Hid.mk' hbl
      clear hbl
      cases hm : (opensH each) ⟨s, m, d, bz, y⟩ with
      | false =>
        have HE : Hid (lst (opensH each) allH hs (i + 1) = lst (opensH each) allH hs i) := hno hm
        clear hno hnew hless hmore hplt hrp
        go_wp2_with fail
        rw [← hW]
        clear hW hg c0 c1 c2 c3 c4 hbW
        refine wp_region_held_drew (S := fun w' => w'.cell? ⟨q, 0, none⟩ = some (.int .i64 each) ∧ w'.cell? ⟨g, 0, none⟩ = some (.int .i64 s) ∧ w'.cell? ⟨g, 1, none⟩ = some (.int .i64 m) ∧ w'.cell? ⟨g, 2, none⟩ = some (.int .i64 d) ∧ w'.cell? ⟨g, 3, none⟩ = some (.int .i64 bz) ∧ w'.cell? ⟨g, 4, none⟩ = some (.bool y) ∧ Below w.heap.size w w') (by kernel_rfl) ?_ (fun hHeld => ?_)
        · exact HO.out.below (Below.refl _ _).drew
        refine wpAnyH_take (i := 0) (oi := { dst := some 19, op := Op.move (Operand.tmp 1), type := 46, pos := "choose.go:72", after := #[], guard := none }) (v := ?_) rfl (by kernel_rfl) (by kernel_rfl) (by kernel_rfl) (fun _ _ _ h => h) (Or.inl ⟨by rfl, ?_⟩) (by assumption) ?_
        rotate_left
        · intro w hSw
          try dsimp only at hSw
          go_simp
          first | done | with_reducible rfl
        try simp only [Act.put, List.setIfInBounds_toArray, List.set_cons_zero, List.set_cons_succ]
        refine wpAnyH_take (i := 1) (oi := { dst := some 20, op := Op.load 38 (Operand.tmp 11), type := 38, pos := "choose.go:72", after := #[], guard := none }) (v := ?_) rfl (by kernel_rfl) (by kernel_rfl) (by kernel_rfl) (fun _ _ _ h => h) (Or.inl ⟨by rfl, ?_⟩) (by assumption) ?_
        rotate_left
        · intro w hSw
          try dsimp only at hSw
          go_simp
          first | done | with_reducible rfl
        try simp only [Act.put, List.setIfInBounds_toArray, List.set_cons_zero, List.set_cons_succ]
        refine wpAnyH_ready (rs := [2]) (by kernel_rfl) (by simp) ?_
        refine AllReadyH.cons (o := { dst := some 21, op := Op.call { callee := Callee.value (Operand.tmp 19), args := #[Operand.tmp 20], argTypes := #[38] }, type := 4, pos := "choose.go:72", after := #[{ on := 0, ground := Ground.data }, { on := 1, ground := Ground.data }], guard := none }) rfl (fun K hK => ?_) AllReadyH.nil
        go_simp
        (go_at_call 30; refine (HM.out false hm _ HQ.out).mono ?_; rintro e w5 ⟨rfl, hbx⟩)
        try go_wp2_with fail
        refine hK.out _ _ ?_ (fun hHeld => ?_)
        · exact O6.below (by assumption) hbx
        clear hK K
        try simp only [Act.put, List.setIfInBounds_toArray, List.set_cons_zero, List.set_cons_succ]
        refine wpAnyH_take (i := 3) (oi := { dst := some 22, op := Op.move (Operand.tmp 21), type := 4, pos := "choose.go:72", after := #[{ on := 2, ground := Ground.data }, { on := 2, ground := Ground.chain }], guard := none }) (v := ?_) rfl (by kernel_rfl) (by kernel_rfl) (by kernel_rfl) (fun _ _ _ h => h) (Or.inl ⟨by rfl, ?_⟩) (by assumption) ?_
        rotate_left
        · intro w hSw
          try dsimp only at hSw
          go_simp
          first | done | with_reducible rfl
        try simp only [Act.put, List.setIfInBounds_toArray, List.set_cons_zero, List.set_cons_succ]
        refine wpAnyH_take (i := 4) (oi := { dst := some 23, op := Op.move (Operand.tmp 9), type := 4, pos := "choose.go:72", after := #[{ on := 3, ground := Ground.guard }], guard := some (3, true) }) (v := undef) rfl (by kernel_rfl) (by kernel_rfl) (by kernel_rfl) (fun _ _ _ h => h) (Or.inr ⟨by rfl, rfl⟩) (by assumption) ?_
        try simp only [Act.put, List.setIfInBounds_toArray, List.set_cons_zero, List.set_cons_succ]
        refine wpAnyH_take (i := 5) (oi := { dst := some 24, op := Op.unOp UnOp.not 4 (Operand.tmp 23), type := 4, pos := "choose.go:72", after := #[{ on := 4, ground := Ground.data }, { on := 3, ground := Ground.guard }], guard := some (3, true) }) (v := undef) rfl (by kernel_rfl) (by kernel_rfl) (by kernel_rfl) (fun _ _ _ h => h) (Or.inr ⟨by rfl, rfl⟩) (by assumption) ?_
        try simp only [Act.put, List.setIfInBounds_toArray, List.set_cons_zero, List.set_cons_succ]
        refine wpAnyH_take (i := 6) (oi := { dst := some 25, op := Op.move (Operand.tmp 24), type := 4, pos := "choose.go:72", after := #[{ on := 5, ground := Ground.data }, { on := 3, ground := Ground.chain }, { on := 3, ground := Ground.guard }], guard := some (3, true) }) (v := undef) rfl (by kernel_rfl) (by kernel_rfl) (by kernel_rfl) (fun _ _ _ h => h) (Or.inr ⟨by rfl, rfl⟩) (by assumption) ?_
        try simp only [Act.put, List.setIfInBounds_toArray, List.set_cons_zero, List.set_cons_succ]
        refine wpAnyH_take (i := 7) (oi := { dst := some 26, op := Op.move (Operand.tmp 2), type := 48, pos := "choose.go:72", after := #[{ on := 6, ground := Ground.guard }], guard := some (6, false) }) (v := undef) rfl (by kernel_rfl) (by kernel_rfl) (by kernel_rfl) (fun _ _ _ h => h) (Or.inr ⟨by rfl, rfl⟩) (by assumption) ?_
        try simp only [Act.put, List.setIfInBounds_toArray, List.set_cons_zero, List.set_cons_succ]
        refine wpAnyH_take (i := 8) (oi := { dst := some 27, op := Op.load 38 (Operand.tmp 11), type := 38, pos := "choose.go:72", after := #[{ on := 6, ground := Ground.guard }], guard := some (6, false) }) (v := undef) rfl (by kernel_rfl) (by kernel_rfl) (by kernel_rfl) (fun _ _ _ h => h) (Or.inr ⟨by rfl, rfl⟩) (by assumption) ?_
        try simp only [Act.put, List.setIfInBounds_toArray, List.set_cons_zero, List.set_cons_succ]
        refine wpAnyH_take (i := 9) (oi := { dst := some 28, op := Op.call { callee := Callee.value (Operand.tmp 26), args := #[Operand.tmp 27], argTypes := #[38] }, type := 3, pos := "choose.go:72", after := #[{ on := 7, ground := Ground.data }, { on := 8, ground := Ground.data }, { on := 6, ground := Ground.chain }, { on := 6, ground := Ground.guard }], guard := some (6, false) }) (v := undef) rfl (by kernel_rfl) (by kernel_rfl) (by kernel_rfl) (fun _ _ _ h => h) (Or.inr ⟨by rfl, rfl⟩) (by assumption) ?_
        try simp only [Act.put, List.setIfInBounds_toArray, List.set_cons_zero, List.set_cons_succ]
        refine wpAnyH_take (i := 10) (oi := { dst := some 29, op := Op.move (Operand.tmp 2), type := 48, pos := "choose.go:72", after := #[{ on := 6, ground := Ground.guard }], guard := some (6, false) }) (v := undef) rfl (by kernel_rfl) (by kernel_rfl) (by kernel_rfl) (fun _ _ _ h => h) (Or.inr ⟨by rfl, rfl⟩) (by assumption) ?_
        try simp only [Act.put, List.setIfInBounds_toArray, List.set_cons_zero, List.set_cons_succ]
        refine wpAnyH_take (i := 11) (oi := { dst := some 30, op := Op.move (Operand.tmp 0), type := 25, pos := "choose.go:72", after := #[{ on := 6, ground := Ground.guard }], guard := some (6, false) }) (v := undef) rfl (by kernel_rfl) (by kernel_rfl) (by kernel_rfl) (fun _ _ _ h => h) (Or.inr ⟨by rfl, rfl⟩) (by assumption) ?_
        try simp only [Act.put, List.setIfInBounds_toArray, List.set_cons_zero, List.set_cons_succ]
        refine wpAnyH_take (i := 12) (oi := { dst := some 31, op := Op.move (Operand.tmp 8), type := 3, pos := "choose.go:72", after := #[{ on := 6, ground := Ground.guard }], guard := some (6, false) }) (v := undef) rfl (by kernel_rfl) (by kernel_rfl) (by kernel_rfl) (fun _ _ _ h => h) (Or.inr ⟨by rfl, rfl⟩) (by assumption) ?_
        try simp only [Act.put, List.setIfInBounds_toArray, List.set_cons_zero, List.set_cons_succ]
        refine wpAnyH_take (i := 13) (oi := { dst := some 32, op := Op.indexAddr 25 (Operand.tmp 30) (Operand.tmp 31), type := 0, pos := "choose.go:72", after := #[{ on := 11, ground := Ground.data }, { on := 12, ground := Ground.data }, { on := 6, ground := Ground.guard }], guard := some (6, false) }) (v := undef) rfl (by kernel_rfl) (by kernel_rfl) (by kernel_rfl) (fun _ _ _ h => h) (Or.inr ⟨by rfl, rfl⟩) (by assumption) ?_
        try simp only [Act.put, List.setIfInBounds_toArray, List.set_cons_zero, List.set_cons_succ]
        refine wpAnyH_take (i := 14) (oi := { dst := some 33, op := Op.load 38 (Operand.tmp 32), type := 38, pos := "choose.go:72", after := #[{ on := 13, ground := Ground.data }, { on := 6, ground := Ground.guard }], guard := some (6, false) }) (v := undef) rfl (by kernel_rfl) (by kernel_rfl) (by kernel_rfl) (fun _ _ _ h => h) (Or.inr ⟨by rfl, rfl⟩) (by assumption) ?_
        try simp only [Act.put, List.setIfInBounds_toArray, List.set_cons_zero, List.set_cons_succ]
        refine wpAnyH_take (i := 15) (oi := { dst := some 34, op := Op.call { callee := Callee.value (Operand.tmp 29), args := #[Operand.tmp 33], argTypes := #[38] }, type := 3, pos := "choose.go:72", after := #[{ on := 10, ground := Ground.data }, { on := 14, ground := Ground.data }, { on := 9, ground := Ground.chain }, { on := 6, ground := Ground.guard }], guard := some (6, false) }) (v := undef) rfl (by kernel_rfl) (by kernel_rfl) (by kernel_rfl) (fun _ _ _ h => h) (Or.inr ⟨by rfl, rfl⟩) (by assumption) ?_
        try simp only [Act.put, List.setIfInBounds_toArray, List.set_cons_zero, List.set_cons_succ]
        refine wpAnyH_take (i := 16) (oi := { dst := some 35, op := Op.binOp BinOp.lss 3 (Operand.tmp 28) (Operand.tmp 34) 3, type := 4, pos := "choose.go:72", after := #[{ on := 9, ground := Ground.data }, { on := 15, ground := Ground.data }, { on := 6, ground := Ground.guard }], guard := some (6, false) }) (v := undef) rfl (by kernel_rfl) (by kernel_rfl) (by kernel_rfl) (fun _ _ _ h => h) (Or.inr ⟨by rfl, rfl⟩) (by assumption) ?_
        try simp only [Act.put, List.setIfInBounds_toArray, List.set_cons_zero, List.set_cons_succ]
        refine wpAnyH_take (i := 17) (oi := { dst := some 36, op := Op.pick (Operand.tmp 25) (Operand.const (Value.bool true)) (Operand.tmp 35), type := 4, pos := "choose.go:72", after := #[{ on := 6, ground := Ground.data }, { on := 16, ground := Ground.data }, { on := 3, ground := Ground.guard }], guard := some (3, true) }) (v := undef) rfl (by kernel_rfl) (by kernel_rfl) (by kernel_rfl) (fun _ _ _ h => h) (Or.inr ⟨by rfl, rfl⟩) (by assumption) ?_
        try simp only [Act.put, List.setIfInBounds_toArray, List.set_cons_zero, List.set_cons_succ]
        refine wpAnyH_take (i := 18) (oi := { dst := some 37, op := Op.pick (Operand.tmp 22) (Operand.tmp 36) (Operand.const (Value.bool false)), type := 4, pos := "choose.go:72", after := #[{ on := 3, ground := Ground.data }, { on := 17, ground := Ground.data }], guard := none }) (v := ?_) rfl (by kernel_rfl) (by kernel_rfl) (by kernel_rfl) (fun _ _ _ h => h) (Or.inl ⟨by rfl, ?_⟩) (by assumption) ?_
        rotate_left
        · intro w hSw
          try dsimp only at hSw
          go_simp
          first | done | with_reducible rfl
        try simp only [Act.put, List.setIfInBounds_toArray, List.set_cons_zero, List.set_cons_succ]
        refine wpAnyH_done (by kernel_rfl) ?_ _
        have hE : O6 w q g (.int .i64 each) s m d bz y w5 := by assumption
        have HF := Hid.mk' hE.2.2.2.2.2.2
        clear hE
        go_wp2
        exact ⟨⟨i + 1, by simp, by omega, by rw [HE.out], by rw [HE.out], HF.out⟩, by simp [intOf]; omega⟩
      | true =>
        cases hl : lst (opensH each) allH hs i with
        | none =>
          have HE : Hid (lst (opensH each) allH hs (i + 1) = some i) := hnew hm hl
          clear hno hnew hless hmore hplt hrp hl
          go_wp2_with fail
          rw [← hW]
          clear hW hg c0 c1 c2 c3 c4 hbW
          refine wp_region_held_drew (S := fun w' => w'.cell? ⟨q, 0, none⟩ = some (.int .i64 each) ∧ w'.cell? ⟨g, 0, none⟩ = some (.int .i64 s) ∧ w'.cell? ⟨g, 1, none⟩ = some (.int .i64 m) ∧ w'.cell? ⟨g, 2, none⟩ = some (.int .i64 d) ∧ w'.cell? ⟨g, 3, none⟩ = some (.int .i64 bz) ∧ w'.cell? ⟨g, 4, none⟩ = some (.bool y) ∧ Below w.heap.size w w') (by kernel_rfl) ?_ (fun hHeld => ?_)
          · exact HO.out.below (Below.refl _ _).drew
          refine wpAnyH_take (i := 0) (oi := { dst := some 19, op := Op.move (Operand.tmp 1), type := 46, pos := "choose.go:72", after := #[], guard := none }) (v := ?_) rfl (by kernel_rfl) (by kernel_rfl) (by kernel_rfl) (fun _ _ _ h => h) (Or.inl ⟨by rfl, ?_⟩) (by assumption) ?_
          rotate_left
          · intro w hSw
            try dsimp only at hSw
            go_simp
            first | done | with_reducible rfl
          try simp only [Act.put, List.setIfInBounds_toArray, List.set_cons_zero, List.set_cons_succ]
          refine wpAnyH_take (i := 1) (oi := { dst := some 20, op := Op.load 38 (Operand.tmp 11), type := 38, pos := "choose.go:72", after := #[], guard := none }) (v := ?_) rfl (by kernel_rfl) (by kernel_rfl) (by kernel_rfl) (fun _ _ _ h => h) (Or.inl ⟨by rfl, ?_⟩) (by assumption) ?_
          rotate_left
          · intro w hSw
            try dsimp only at hSw
            go_simp
            first | done | with_reducible rfl
          try simp only [Act.put, List.setIfInBounds_toArray, List.set_cons_zero, List.set_cons_succ]
          refine wpAnyH_ready (rs := [2]) (by kernel_rfl) (by simp) ?_
          refine AllReadyH.cons (o := { dst := some 21, op := Op.call { callee := Callee.value (Operand.tmp 19), args := #[Operand.tmp 20], argTypes := #[38] }, type := 4, pos := "choose.go:72", after := #[{ on := 0, ground := Ground.data }, { on := 1, ground := Ground.data }], guard := none }) rfl (fun K hK => ?_) AllReadyH.nil
          go_simp
          (go_at_call 30; refine (HM.out true hm _ HQ.out).mono ?_; rintro e w5 ⟨rfl, hbx⟩)
          try go_wp2_with fail
          refine hK.out _ _ ?_ (fun hHeld => ?_)
          · exact O6.below (by assumption) hbx
          clear hK K
          try simp only [Act.put, List.setIfInBounds_toArray, List.set_cons_zero, List.set_cons_succ]
          refine wpAnyH_take (i := 3) (oi := { dst := some 22, op := Op.move (Operand.tmp 21), type := 4, pos := "choose.go:72", after := #[{ on := 2, ground := Ground.data }, { on := 2, ground := Ground.chain }], guard := none }) (v := ?_) rfl (by kernel_rfl) (by kernel_rfl) (by kernel_rfl) (fun _ _ _ h => h) (Or.inl ⟨by rfl, ?_⟩) (by assumption) ?_
          rotate_left
          · intro w hSw
            try dsimp only at hSw
            go_simp
            first | done | with_reducible rfl
          try simp only [Act.put, List.setIfInBounds_toArray, List.set_cons_zero, List.set_cons_succ]
          refine wpAnyH_take (i := 4) (oi := { dst := some 23, op := Op.move (Operand.tmp 9), type := 4, pos := "choose.go:72", after := #[{ on := 3, ground := Ground.guard }], guard := some (3, true) }) (v := ?_) rfl (by kernel_rfl) (by kernel_rfl) (by kernel_rfl) (fun _ _ _ h => h) (Or.inl ⟨by rfl, ?_⟩) (by assumption) ?_
          rotate_left
          · intro w hSw
            try dsimp only at hSw
            go_simp
            first | done | with_reducible rfl
          try simp only [Act.put, List.setIfInBounds_toArray, List.set_cons_zero, List.set_cons_succ]
          refine wpAnyH_take (i := 5) (oi := { dst := some 24, op := Op.unOp UnOp.not 4 (Operand.tmp 23), type := 4, pos := "choose.go:72", after := #[{ on := 4, ground := Ground.data }, { on := 3, ground := Ground.guard }], guard := some (3, true) }) (v := ?_) rfl (by kernel_rfl) (by kernel_rfl) (by kernel_rfl) (fun _ _ _ h => h) (Or.inl ⟨by rfl, ?_⟩) (by assumption) ?_
          rotate_left
          · intro w hSw
            try dsimp only at hSw
            go_simp
            first | done | with_reducible rfl
          try simp only [Act.put, List.setIfInBounds_toArray, List.set_cons_zero, List.set_cons_succ]
          refine wpAnyH_take (i := 6) (oi := { dst := some 25, op := Op.move (Operand.tmp 24), type := 4, pos := "choose.go:72", after := #[{ on := 5, ground := Ground.data }, { on := 3, ground := Ground.chain }, { on := 3, ground := Ground.guard }], guard := some (3, true) }) (v := ?_) rfl (by kernel_rfl) (by kernel_rfl) (by kernel_rfl) (fun _ _ _ h => h) (Or.inl ⟨by rfl, ?_⟩) (by assumption) ?_
          rotate_left
          · intro w hSw
            try dsimp only at hSw
            go_simp
            first | done | with_reducible rfl
          try simp only [Act.put, List.setIfInBounds_toArray, List.set_cons_zero, List.set_cons_succ]
          refine wpAnyH_take (i := 7) (oi := { dst := some 26, op := Op.move (Operand.tmp 2), type := 48, pos := "choose.go:72", after := #[{ on := 6, ground := Ground.guard }], guard := some (6, false) }) (v := undef) rfl (by kernel_rfl) (by kernel_rfl) (by kernel_rfl) (fun _ _ _ h => h) (Or.inr ⟨by rfl, rfl⟩) (by assumption) ?_
          try simp only [Act.put, List.setIfInBounds_toArray, List.set_cons_zero, List.set_cons_succ]
          refine wpAnyH_take (i := 8) (oi := { dst := some 27, op := Op.load 38 (Operand.tmp 11), type := 38, pos := "choose.go:72", after := #[{ on := 6, ground := Ground.guard }], guard := some (6, false) }) (v := undef) rfl (by kernel_rfl) (by kernel_rfl) (by kernel_rfl) (fun _ _ _ h => h) (Or.inr ⟨by rfl, rfl⟩) (by assumption) ?_
          try simp only [Act.put, List.setIfInBounds_toArray, List.set_cons_zero, List.set_cons_succ]
          refine wpAnyH_take (i := 9) (oi := { dst := some 28, op := Op.call { callee := Callee.value (Operand.tmp 26), args := #[Operand.tmp 27], argTypes := #[38] }, type := 3, pos := "choose.go:72", after := #[{ on := 7, ground := Ground.data }, { on := 8, ground := Ground.data }, { on := 6, ground := Ground.chain }, { on := 6, ground := Ground.guard }], guard := some (6, false) }) (v := undef) rfl (by kernel_rfl) (by kernel_rfl) (by kernel_rfl) (fun _ _ _ h => h) (Or.inr ⟨by rfl, rfl⟩) (by assumption) ?_
          try simp only [Act.put, List.setIfInBounds_toArray, List.set_cons_zero, List.set_cons_succ]
          refine wpAnyH_take (i := 10) (oi := { dst := some 29, op := Op.move (Operand.tmp 2), type := 48, pos := "choose.go:72", after := #[{ on := 6, ground := Ground.guard }], guard := some (6, false) }) (v := undef) rfl (by kernel_rfl) (by kernel_rfl) (by kernel_rfl) (fun _ _ _ h => h) (Or.inr ⟨by rfl, rfl⟩) (by assumption) ?_
          try simp only [Act.put, List.setIfInBounds_toArray, List.set_cons_zero, List.set_cons_succ]
          refine wpAnyH_take (i := 11) (oi := { dst := some 30, op := Op.move (Operand.tmp 0), type := 25, pos := "choose.go:72", after := #[{ on := 6, ground := Ground.guard }], guard := some (6, false) }) (v := undef) rfl (by kernel_rfl) (by kernel_rfl) (by kernel_rfl) (fun _ _ _ h => h) (Or.inr ⟨by rfl, rfl⟩) (by assumption) ?_
          try simp only [Act.put, List.setIfInBounds_toArray, List.set_cons_zero, List.set_cons_succ]
          refine wpAnyH_take (i := 12) (oi := { dst := some 31, op := Op.move (Operand.tmp 8), type := 3, pos := "choose.go:72", after := #[{ on := 6, ground := Ground.guard }], guard := some (6, false) }) (v := undef) rfl (by kernel_rfl) (by kernel_rfl) (by kernel_rfl) (fun _ _ _ h => h) (Or.inr ⟨by rfl, rfl⟩) (by assumption) ?_
          try simp only [Act.put, List.setIfInBounds_toArray, List.set_cons_zero, List.set_cons_succ]
          refine wpAnyH_take (i := 13) (oi := { dst := some 32, op := Op.indexAddr 25 (Operand.tmp 30) (Operand.tmp 31), type := 0, pos := "choose.go:72", after := #[{ on := 11, ground := Ground.data }, { on := 12, ground := Ground.data }, { on := 6, ground := Ground.guard }], guard := some (6, false) }) (v := undef) rfl (by kernel_rfl) (by kernel_rfl) (by kernel_rfl) (fun _ _ _ h => h) (Or.inr ⟨by rfl, rfl⟩) (by assumption) ?_
          try simp only [Act.put, List.setIfInBounds_toArray, List.set_cons_zero, List.set_cons_succ]
          refine wpAnyH_take (i := 14) (oi := { dst := some 33, op := Op.load 38 (Operand.tmp 32), type := 38, pos := "choose.go:72", after := #[{ on := 13, ground := Ground.data }, { on := 6, ground := Ground.guard }], guard := some (6, false) }) (v := undef) rfl (by kernel_rfl) (by kernel_rfl) (by kernel_rfl) (fun _ _ _ h => h) (Or.inr ⟨by rfl, rfl⟩) (by assumption) ?_
          try simp only [Act.put, List.setIfInBounds_toArray, List.set_cons_zero, List.set_cons_succ]
          refine wpAnyH_take (i := 15) (oi := { dst := some 34, op := Op.call { callee := Callee.value (Operand.tmp 29), args := #[Operand.tmp 33], argTypes := #[38] }, type := 3, pos := "choose.go:72", after := #[{ on := 10, ground := Ground.data }, { on := 14, ground := Ground.data }, { on := 9, ground := Ground.chain }, { on := 6, ground := Ground.guard }], guard := some (6, false) }) (v := undef) rfl (by kernel_rfl) (by kernel_rfl) (by kernel_rfl) (fun _ _ _ h => h) (Or.inr ⟨by rfl, rfl⟩) (by assumption) ?_
          try simp only [Act.put, List.setIfInBounds_toArray, List.set_cons_zero, List.set_cons_succ]
          refine wpAnyH_take (i := 16) (oi := { dst := some 35, op := Op.binOp BinOp.lss 3 (Operand.tmp 28) (Operand.tmp 34) 3, type := 4, pos := "choose.go:72", after := #[{ on := 9, ground := Ground.data }, { on := 15, ground := Ground.data }, { on := 6, ground := Ground.guard }], guard := some (6, false) }) (v := undef) rfl (by kernel_rfl) (by kernel_rfl) (by kernel_rfl) (fun _ _ _ h => h) (Or.inr ⟨by rfl, rfl⟩) (by assumption) ?_
          try simp only [Act.put, List.setIfInBounds_toArray, List.set_cons_zero, List.set_cons_succ]
          refine wpAnyH_take (i := 17) (oi := { dst := some 36, op := Op.pick (Operand.tmp 25) (Operand.const (Value.bool true)) (Operand.tmp 35), type := 4, pos := "choose.go:72", after := #[{ on := 6, ground := Ground.data }, { on := 16, ground := Ground.data }, { on := 3, ground := Ground.guard }], guard := some (3, true) }) (v := ?_) rfl (by kernel_rfl) (by kernel_rfl) (by kernel_rfl) (fun _ _ _ h => h) (Or.inl ⟨by rfl, ?_⟩) (by assumption) ?_
          rotate_left
          · intro w hSw
            try dsimp only at hSw
            go_simp
            first | done | with_reducible rfl
          try simp only [Act.put, List.setIfInBounds_toArray, List.set_cons_zero, List.set_cons_succ]
          refine wpAnyH_take (i := 18) (oi := { dst := some 37, op := Op.pick (Operand.tmp 22) (Operand.tmp 36) (Operand.const (Value.bool false)), type := 4, pos := "choose.go:72", after := #[{ on := 3, ground := Ground.data }, { on := 17, ground := Ground.data }], guard := none }) (v := ?_) rfl (by kernel_rfl) (by kernel_rfl) (by kernel_rfl) (fun _ _ _ h => h) (Or.inl ⟨by rfl, ?_⟩) (by assumption) ?_
          rotate_left
          · intro w hSw
            try dsimp only at hSw
            go_simp
            first | done | with_reducible rfl
          try simp only [Act.put, List.setIfInBounds_toArray, List.set_cons_zero, List.set_cons_succ]
          refine wpAnyH_done (by kernel_rfl) ?_ _
          have hE : O6 w q g (.int .i64 each) s m d bz y w5 := by assumption
          have HF := Hid.mk' hE.2.2.2.2.2.2
          clear hE
          go_wp2
          exact ⟨⟨i + 1, by simp, by omega, by rw [HE.out]; rfl, by rw [HE.out]; rfl, HF.out⟩, by simp [intOf]; omega⟩
        | some p =>
          have hpi := hplt p hl
          have hx := hrp p hpi
          have hls := hless p hm hl
          have hmr := hmore p hm hl
          clear hno hnew hless hmore hplt hrp
          generalize hs.getD p z0 = h2 at *
          obtain ⟨s2, m2, d2, b2, y2⟩ := h2
          have HO2 : Hid (O11 w q g (.int .i64 each) s m d bz y b (off + p * 5) s2 m2 d2 b2 y2 W) := by
            obtain ⟨x0, x1, x2, x3, x4⟩ := hx
            exact ⟨(hbW.cell (p := ⟨b, off + p * 5, none⟩) hlt).trans x0, (hbW.cell (p := ⟨b, off + p * 5 + 1, none⟩) hlt).trans x1, (hbW.cell (p := ⟨b, off + p * 5 + 2, none⟩) hlt).trans x2, (hbW.cell (p := ⟨b, off + p * 5 + 3, none⟩) hlt).trans x3, (hbW.cell (p := ⟨b, off + p * 5 + 4, none⟩) hlt).trans x4, HO.out⟩
          clear hx HO
          have hpl : (p : Int) < (len : Int) := by omega
          have hplc : plc (some p) = (p : Int) := rfl
          have HT1 : Hid (∀ w', _) := inAll5 s m d bz y
          have HT2 : Hid (∀ w', _) := inAll5 s2 m2 d2 b2 y2
          generalize allH ⟨s, m, d, bz, y⟩ = T1 at *
          generalize allH ⟨s2, m2, d2, b2, y2⟩ = T2 at *
          rw [hplc]
          simp only [Option.isSome_some]
          have HPLC := Hid.mk' hplc
          have HLS := Hid.mk' hls
          have HMR := Hid.mk' hmr
          clear hplc hls hmr hl
          go_wp2_with fail
          rw [← hW]
          clear hW hg c0 c1 c2 c3 c4 hbW
          have hS : O11 w q g (.int .i64 each) s m d bz y b (off + p * 5) s2 m2 d2 b2 y2 W.drew := HO2.out.below (Below.refl _ _).drew
          unfold O11 O6 at hS
          go_region_held3 (fun w' => w'.cell? ⟨b, off + p * 5, none⟩ = some (.int .i64 s2) ∧ w'.cell? ⟨b, off + p * 5 + 1, none⟩ = some (.int .i64 m2) ∧ w'.cell? ⟨b, off + p * 5 + 2, none⟩ = some (.int .i64 d2) ∧ w'.cell? ⟨b, off + p * 5 + 3, none⟩ = some (.int .i64 b2) ∧ w'.cell? ⟨b, off + p * 5 + 4, none⟩ = some (.bool y2) ∧ w'.cell? ⟨q, 0, none⟩ = some (.int .i64 each) ∧ w'.cell? ⟨g, 0, none⟩ = some (.int .i64 s) ∧ w'.cell? ⟨g, 1, none⟩ = some (.int .i64 m) ∧ w'.cell? ⟨g, 2, none⟩ = some (.int .i64 d) ∧ w'.cell? ⟨g, 3, none⟩ = some (.int .i64 bz) ∧ w'.cell? ⟨g, 4, none⟩ = some (.bool y) ∧ Below w.heap.size w w')
            (first | assumption | exact O11.below (by assumption) hbx | exact O11.below (by assumption) hby | exact O11.below (by assumption) hbz | go_keep)
            (first
              | (go_at_call 30; refine (HM.out true hm _ HQ.out).mono ?_; rintro e w5 ⟨rfl, hbx⟩)
              | (go_at_call_of 26 (Value.agg #[.int .i64 s, .int .i64 m, .int .i64 d, .int .i64 bz, .bool y]); refine (HT1.out _).mono ?_; rintro e w6 ⟨rfl, hby⟩)
              | (go_at_call_of 26 (Value.agg #[.int .i64 s2, .int .i64 m2, .int .i64 d2, .int .i64 b2, .bool y2]); refine (HT2.out _).mono ?_; rintro e w7 ⟨rfl, hbz⟩))
          have hE : O11 w q g (.int .i64 each) s m d bz y b (off + p * 5) s2 m2 d2 b2 y2 w7 := by assumption
          have HF := Hid.mk' hE.2.2.2.2.2.2.2.2.2.2.2
          clear hE hS hbx hby hbz HO2 HT1 HT2 HM
          by_cases hlt2 : T1 < T2
          · have HE := Hid.mk' (HLS.out hlt2)
            clear HLS HMR
            go_wp2
            exact ⟨⟨i + 1, by simp, by omega, by rw [HE.out]; rfl, by rw [HE.out]; rfl, HF.out⟩, by simp [intOf]; omega⟩
          · have HE := Hid.mk' (HMR.out (by omega))
            clear HLS HMR
            go_wp2
            exact ⟨⟨i + 1, by simp, by omega, by rw [HE.out]; rfl, by rw [HE.out]; rfl, HF.out⟩, by simp [intOf]; omega⟩
    · obtain rfl : i = len := by omega
      have HB := Hid.mk' hbl
      clear hbl
      go_wp2
      go_ret2
      exact ⟨rfl, HB.out⟩

end Go.Proofs.Ytdiifnakmemadaa
