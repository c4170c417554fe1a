/-
  DrainsOnce's walk: a name is waiting, or under way, or none, never both: it returns true and turns nothing that was there. Conditions: the steps lie where they are said to lie.
-/
import Derived.Test.YthobihlnjcphaaaOnceP
import Derived.Deep.RegionWith
import Derived.Deep.CutBlock
import Derived.Deep.RegionHeld3
namespace Go.Proofs.Ythobihlnjcphaaa
open Go.ChangeShapes Go.WideShapes Go.ChangeAt Go.RowKit

set_option maxHeartbeats 4000000 in
set_option maxRecDepth 100000 in
theorem once_walk (a : Option Addr) (len cap : Nat) (ss : List Stp) (w : World) (hs : StepsAt w a len cap ss) :
    Calls Try.prog 5 #[.slice a len cap] w fun e w' => e = .returned (.bool true) ∧ Below w.heap.size w w' := by
  obtain ⟨n, hn⟩ : ∃ n, min len 80 = n := ⟨_, rfl⟩
  have hn8 : n ≤ 80 := by omega
  have HN := Hid.mk' hn
  have HS0 := Hid.mk' hs
  clear hs hn
  go_enter Try.func5, Try.ntmps5
  go_wp2_with fail
  refine (lives_any _).mono ?_
  rintro e w1 ⟨rfl, hb1⟩
  go_wp2_with fail
  refine (new_any _).mono ?_
  rintro e w2 ⟨rfl, hq2, hb2⟩
  go_wp2_with fail
  refine (early_any a len cap n ss _ ((HS0.out.below hb1).below hb2) HN.out).mono ?_
  rintro e w3 ⟨a3, c3, rfl, hs3, hnm3, -, ha3, hb3⟩
  have hl3 := hs3.hle
  have hm3 := hs3.hcap
  unfold maxLen at hm3
  have hq3 := hq2.below hb3
  have HB : Hid (Below w.heap.size w w3) := below_trans (below_trans hb1 hb2) hb3
  have HA3 : Hid (∀ x, a3 = some x → x.block < w1.heap.size ∨ (w2.heap.size ≤ x.block ∧ x.block < w3.heap.size)) := fun x hx => .inr (ha3 x hx)
  have HNM := Hid.mk' hnm3
  have HLO : Hid (∀ k, k < w.heap.size → k < w1.heap.size) := fun k hk => Nat.lt_of_lt_of_le hk hb1.size
  generalize trs (ss.take n) = ts at *
  have HS := Hid.mk' hs3
  clear hs3 hnm3 hb1 hb2 hb3 hq2 ha3 HN HS0
  generalize hA : (fun k => k < w1.heap.size ∨ (w2.heap.size ≤ k ∧ k < w3.heap.size)) = A at *
  have HAA : Hid (∀ k, k < w.heap.size → A k) := fun k hk => by rw [← hA]; exact .inl (HLO.out k hk)
  have HA4 : Hid (∀ x, a3 = some x → A x.block) := fun x hx => by rw [← hA]; exact HA3.out x hx
  clear hA HLO HA3
  generalize w1.heap.size = g at *
  go_wp2
  go_loopw [4] (fun v4 wr => ∃ (i : Nat) (L M : List Dr), v4 = .int .i64 i ∧ i ≤ n ∧ Hid (DIn wr A g 0 L M) ∧ Hid (Inv L M) ∧ M.length ≤ i ∧ Hid (Keep A w3 wr)) (fun v4 _ => n + 1 - (intOf v4).toNat)
  case atStart => exact ⟨0, [], [], rfl, Nat.zero_le _, hq3, Inv.nil, Nat.zero_le _, Keep.refl _ _⟩
  case round =>
    clear hq3
    obtain ⟨i, L, M, rfl, hi, HD, HV, hM, HK⟩ := hrel
    by_cases hin : i < n
    · obtain ⟨b, off, rfl, hb, hcc, -, -⟩ := HS.out.rd i hin
      have hsz := HNM.out i hin
      have hbA := HA4.out _ rfl
      have x0 := HK.out.cell (hcc 0 _ rfl) hbA
      have x1 := HK.out.cell (hcc 1 _ rfl) hbA
      have x2 := HK.out.cell (hcc 2 _ rfl) hbA
      have x3 := HK.out.cell (hcc 3 _ rfl) hbA
      rw [Nat.add_zero] at x0
      generalize ts.getD i s0 = st at *
      have hO : ∃ B : Nat → Prop, OS w3 A B g wr.heap.size L M st (wr.alloc (.cells #[.int .i64 st.kd, .int .i64 st.n, .string st.nm, .slice st.ma st.ml st.mc] 32)) := by
        have hba : Below wr.heap.size wr (wr.alloc (.cells #[.int .i64 st.kd, .int .i64 st.n, .string st.nm, .slice st.ma st.ml st.mc] 32)) := (Below.refl _ wr).alloc (Nat.le_refl _) _
        exact ⟨_, HD.out.below hba, HV.out, fun k hk => .inl hk, .inr ⟨Nat.le_refl _, by simp⟩, heap_alloc_new _ _, HK.out.trans (keep_below hba)⟩
      obtain ⟨B, hO⟩ := hO
      have HO := Hid.mk' hO
      have hin' : (i : Int) < (n : Int) := by omega
      have HSZ := Hid.mk' hsz
      clear hcc hO HD HK HV hsz
      go_upto_region 9 with fail
      generalize wr.alloc (.cells #[.int .i64 st.kd, .int .i64 st.n, .string st.nm, .slice st.ma st.ml st.mc] 32) = w6 at *
      generalize wr.heap.size = z at *
      obtain ⟨y0, y1, y2, y3, -⟩ := HO.out.s.cells
      clear x0 x1 x2 x3
      go_upto_block 2 with (go_at_call 11; refine (kind_step _ _ _ _ _).mono ?_; rintro e w7 ⟨rfl, hb7⟩)
      have HO7 := Hid.mk' (HO.out.same hb7)
      clear HO y0 y1 y2 y3 hb7
      go_cut [6] from 28 to 67 (fun _ wx => ∃ (L2 M2 : List Dr), M2.length ≤ i + 1 ∧ OS w3 A B g z L2 M2 st wx)
      case first =>
        obtain ⟨y0, y1, y2, y3, hz⟩ := HO7.out.s.cells
        have hkk := kindI_of st.kd
        generalize kindI st.kd = kk at *
        have HS20 : Hid (st.nm.size ≤ maxLen) := by
          have := HSZ.out
          show _ ≤ _
          unfold maxLen
          omega
        rcases hkk with rfl | rfl | rfl | hkk
        · have hsw := ask_w w7 B g L M st.nm HO7.out.d HS20.out
          have HOA : Hid (∀ w', DIn w' B g 0 (askL st.nm L M) M → Keep B w7 w' → OS w3 A B g z (askL st.nm L M) M st w') := fun w' hd hk => HO7.out.step hd (HO7.out.v.asked _) hk
          go_wp2_with (first | (go_at_call 13; refine hsw.mono ?_; rintro e w8 ⟨rfl, hd8, hk8⟩; have ho8 := HOA.out w8 hd8 hk8; clear hsw hd8 hk8))
          go_meet
          exact ⟨_, _, by omega, ho8⟩
        · have hsw := beg_w w7 B g L M st.nm st.n HO7.out.d HO7.out.v HS20.out (by omega)
          have HML := Hid.mk' (begM_len st.nm st.n M)
          have HOA : Hid (∀ w', DIn w' B g 0 (begL st.nm L M) (begM st.nm st.n M) → Keep B w7 w' → OS w3 A B g z (begL st.nm L M) (begM st.nm st.n M) st w') := fun w' hd hk => HO7.out.step hd (HO7.out.v.begun _ _) hk
          go_wp2_with (first | (go_at_call 15; refine hsw.mono ?_; rintro e w8 ⟨rfl, hd8, hk8⟩; have ho8 := HOA.out w8 hd8 hk8; clear hsw hd8 hk8))
          go_meet
          exact ⟨_, _, by have := HML.out; omega, ho8⟩
        · have hfew := HO7.out.v.few
          have HU : Hid (∀ w', OS w3 A B g z L M st w' → Calls Try.prog 25 #[.pointer (some ⟨g, 0, none⟩)] w' fun e w'' => e = .returned (.slice (some ⟨w'.heap.size, 0, none⟩) M.length M.length) ∧ StrsAt w'' (some ⟨w'.heap.size, 0, none⟩) M.length M.length (nms M) ∧ OS w3 A B g z L M st w'' ∧ Below w'.heap.size w' w'') := fun w' h => OS.under (by omega) w' h
          have HW : Hid (∀ w', OS w3 A B g z L M st w' → Calls Try.prog 24 #[.pointer (some ⟨g, 0, none⟩)] w' fun e w'' => e = .returned (.slice (some ⟨w'.heap.size, 0, none⟩) L.length L.length) ∧ StrsAt w'' (some ⟨w'.heap.size, 0, none⟩) L.length L.length (nms L) ∧ OS w3 A B g z L M st w'') := fun w' h => OS.waits hfew w' h
          go_upto_region 15 with fail
          go_cut [6] from 44 to 55 (fun v6 wx => v6 = .bool (isIn st.nm L || isIn st.nm M) ∧ OS w3 A B g z L M st wx)
          case first =>
            cases h0 : isIn st.nm L with
            | true =>
              refine wp_region_held_drew (S := fun w' => w'.cell? ⟨z, 2, none⟩ = some (.string st.nm) ∧ OS w3 A B g z L M st w') (by kernel_rfl) ?_ (fun hHeld => ?_)
              · exact OS.held (HO7.out.same (below_drewN (Below.refl _ _) 1))
              refine wpAnyH_take (i := 0) (oi := { dst := some 44, op := Op.move (Operand.tmp 3), type := 24, pos := "law.go:133", after := #[], guard := none }) (v := ?_) rfl (by kernel_rfl) (by kernel_rfl) (by kernel_rfl) (fun _ _ _ h => h) (Or.inl ⟨by rfl, ?_⟩) (by assumption) ?_
              rotate_left
              · intro w hSw
                try dsimp only at hSw
                go_simp
                first | done | with_reducible rfl
              try simp only [Act.put, List.setIfInBounds_toArray, List.set_cons_zero, List.set_cons_succ]
              refine wpAnyH_take (i := 2) (oi := { dst := some 46, op := Op.fieldAddr 32 (Operand.tmp 5) 2, type := 0, pos := "law.go:133", after := #[], guard := none }) (v := ?_) rfl (by kernel_rfl) (by kernel_rfl) (by kernel_rfl) (fun _ _ _ h => h) (Or.inl ⟨by rfl, ?_⟩) (by assumption) ?_
              rotate_left
              · intro w hSw
                try dsimp only at hSw
                go_simp
                first | done | with_reducible rfl
              try simp only [Act.put, List.setIfInBounds_toArray, List.set_cons_zero, List.set_cons_succ]
              refine wpAnyH_take (i := 3) (oi := { dst := some 47, op := Op.load 9 (Operand.tmp 46), type := 9, pos := "law.go:133", after := #[{ on := 2, ground := Ground.data }], guard := none }) (v := ?_) rfl (by kernel_rfl) (by kernel_rfl) (by kernel_rfl) (fun _ _ _ h => h) (Or.inl ⟨by rfl, ?_⟩) (by assumption) ?_
              rotate_left
              · intro w hSw
                try dsimp only at hSw
                go_simp
                first | done | with_reducible rfl
              try simp only [Act.put, List.setIfInBounds_toArray, List.set_cons_zero, List.set_cons_succ]
              refine wpAnyH_ready (rs := [1]) (by kernel_rfl) (by simp) ?_
              refine AllReadyH.cons (o := { dst := some 45, op := Op.call { callee := Callee.value (Operand.func 24), args := #[Operand.tmp 44], argTypes := #[24] }, type := 26, pos := "law.go:133", after := #[{ on := 0, ground := Ground.data }], guard := none }) rfl (fun K hK => ?_) AllReadyH.nil
              go_simp
              (go_at_call 24; refine (HW.out _ (os_of (by assumption))).mono ?_; rintro e w8 ⟨rfl, hs8, ho8⟩)
              try go_wp2_with fail
              refine hK.out _ _ ?_ (fun hHeld => ?_)
              · first | assumption | exact OS.held ho9 | exact OS.held ho8
              clear hK K
              try simp only [Act.put, List.setIfInBounds_toArray, List.set_cons_zero, List.set_cons_succ]
              refine wpAnyH_ready (rs := [4]) (by kernel_rfl) (by simp) ?_
              refine AllReadyH.cons (o := { dst := some 48, op := Op.call { callee := Callee.value (Operand.func 31), args := #[Operand.tmp 45, Operand.tmp 47], argTypes := #[26, 9] }, type := 4, pos := "law.go:133", after := #[{ on := 1, ground := Ground.data }, { on := 3, ground := Ground.data }, { on := 1, ground := Ground.chain }], guard := none }) rfl (fun K hK => ?_) AllReadyH.nil
              go_simp
              (go_at_call 31; refine (has_is st.nm _ _ _ w8 true hs8 h0).mono ?_; rintro e w' ⟨rfl, hw'⟩; subst w')
              try go_wp2_with fail
              refine hK.out _ _ ?_ (fun hHeld => ?_)
              · first | assumption | exact OS.held ho9 | exact OS.held ho8
              clear hK K
              try simp only [Act.put, List.setIfInBounds_toArray, List.set_cons_zero, List.set_cons_succ]
              refine wpAnyH_take (i := 5) (oi := { dst := some 49, op := Op.move (Operand.tmp 48), type := 4, pos := "law.go:133", after := #[{ on := 4, ground := Ground.data }, { on := 4, ground := Ground.chain }], guard := none }) (v := ?_) rfl (by kernel_rfl) (by kernel_rfl) (by kernel_rfl) (fun _ _ _ h => h) (Or.inl ⟨by rfl, ?_⟩) (by assumption) ?_
              rotate_left
              · intro w hSw
                try dsimp only at hSw
                go_simp
                first | done | with_reducible rfl
              try simp only [Act.put, List.setIfInBounds_toArray, List.set_cons_zero, List.set_cons_succ]
              refine wpAnyH_take (i := 6) (oi := { dst := some 50, op := Op.move (Operand.tmp 3), type := 24, pos := "law.go:133", after := #[{ on := 5, ground := Ground.guard }], guard := some (5, false) }) (v := undef) rfl (by kernel_rfl) (by kernel_rfl) (by kernel_rfl) (fun _ _ _ h => h) (Or.inr ⟨by rfl, rfl⟩) (by assumption) ?_
              try simp only [Act.put, List.setIfInBounds_toArray, List.set_cons_zero, List.set_cons_succ]
              refine wpAnyH_take (i := 7) (oi := { dst := some 51, op := Op.call { callee := Callee.value (Operand.func 25), args := #[Operand.tmp 50], argTypes := #[24] }, type := 26, pos := "law.go:133", after := #[{ on := 6, ground := Ground.data }, { on := 5, ground := Ground.chain }, { on := 5, ground := Ground.guard }], guard := some (5, false) }) (v := undef) rfl (by kernel_rfl) (by kernel_rfl) (by kernel_rfl) (fun _ _ _ h => h) (Or.inr ⟨by rfl, rfl⟩) (by assumption) ?_
              try simp only [Act.put, List.setIfInBounds_toArray, List.set_cons_zero, List.set_cons_succ]
              refine wpAnyH_take (i := 8) (oi := { dst := some 52, op := Op.fieldAddr 32 (Operand.tmp 5) 2, type := 0, pos := "law.go:133", after := #[{ on := 5, ground := Ground.guard }], guard := some (5, false) }) (v := undef) rfl (by kernel_rfl) (by kernel_rfl) (by kernel_rfl) (fun _ _ _ h => h) (Or.inr ⟨by rfl, rfl⟩) (by assumption) ?_
              try simp only [Act.put, List.setIfInBounds_toArray, List.set_cons_zero, List.set_cons_succ]
              refine wpAnyH_take (i := 9) (oi := { dst := some 53, op := Op.load 9 (Operand.tmp 52), type := 9, pos := "law.go:133", after := #[{ on := 8, ground := Ground.data }, { on := 5, ground := Ground.guard }], guard := some (5, false) }) (v := undef) rfl (by kernel_rfl) (by kernel_rfl) (by kernel_rfl) (fun _ _ _ h => h) (Or.inr ⟨by rfl, rfl⟩) (by assumption) ?_
              try simp only [Act.put, List.setIfInBounds_toArray, List.set_cons_zero, List.set_cons_succ]
              refine wpAnyH_take (i := 10) (oi := { dst := some 54, op := Op.call { callee := Callee.value (Operand.func 31), args := #[Operand.tmp 51, Operand.tmp 53], argTypes := #[26, 9] }, type := 4, pos := "law.go:133", after := #[{ on := 7, ground := Ground.data }, { on := 9, ground := Ground.data }, { on := 7, ground := Ground.chain }, { on := 5, ground := Ground.guard }], guard := some (5, false) }) (v := undef) rfl (by kernel_rfl) (by kernel_rfl) (by kernel_rfl) (fun _ _ _ h => h) (Or.inr ⟨by rfl, rfl⟩) (by assumption) ?_
              try simp only [Act.put, List.setIfInBounds_toArray, List.set_cons_zero, List.set_cons_succ]
              refine wpAnyH_take (i := 11) (oi := { dst := some 55, op := Op.pick (Operand.tmp 49) (Operand.const (Value.bool true)) (Operand.tmp 54), type := 4, pos := "law.go:133", after := #[{ on := 5, ground := Ground.data }, { on := 10, ground := Ground.data }], guard := none }) (v := ?_) rfl (by kernel_rfl) (by kernel_rfl) (by kernel_rfl) (fun _ _ _ h => h) (Or.inl ⟨by rfl, ?_⟩) (by assumption) ?_
              rotate_left
              · intro w hSw
                try dsimp only at hSw
                go_simp
                first | done | with_reducible rfl
              try simp only [Act.put, List.setIfInBounds_toArray, List.set_cons_zero, List.set_cons_succ]
              refine wpAnyH_take (i := 12) (oi := { dst := some 6, op := Op.assign (Operand.tmp 55), type := 4, pos := "law.go:133", after := #[{ on := 11, ground := Ground.data }, { on := 10, ground := Ground.chain }, { on := 0, ground := Ground.phase }, { on := 1, ground := Ground.phase }, { on := 2, ground := Ground.phase }, { on := 3, ground := Ground.phase }, { on := 4, ground := Ground.phase }, { on := 5, ground := Ground.phase }, { on := 6, ground := Ground.phase }, { on := 7, ground := Ground.phase }, { on := 8, ground := Ground.phase }, { on := 9, ground := Ground.phase }, { on := 10, ground := Ground.phase }, { on := 11, ground := Ground.phase }], guard := none }) (v := ?_) rfl (by kernel_rfl) (by kernel_rfl) (by kernel_rfl) (fun _ _ _ h => h) (Or.inl ⟨by rfl, ?_⟩) (by assumption) ?_
              rotate_left
              · intro w hSw
                try dsimp only at hSw
                go_simp
                first | done | with_reducible rfl
              try simp only [Act.put, List.setIfInBounds_toArray, List.set_cons_zero, List.set_cons_succ]
              refine wpAnyH_done (by kernel_rfl) ?_ _
              go_wp2_with fail
              go_meet
              exact ⟨by simp [h0], ho8⟩
            | false =>
              cases h1 : isIn st.nm M with
              | true =>
                refine wp_region_held_drew (S := fun w' => w'.cell? ⟨z, 2, none⟩ = some (.string st.nm) ∧ OS w3 A B g z L M st w') (by kernel_rfl) ?_ (fun hHeld => ?_)
                · exact OS.held (HO7.out.same (below_drewN (Below.refl _ _) 1))
                refine wpAnyH_take (i := 0) (oi := { dst := some 44, op := Op.move (Operand.tmp 3), type := 24, pos := "law.go:133", after := #[], guard := none }) (v := ?_) rfl (by kernel_rfl) (by kernel_rfl) (by kernel_rfl) (fun _ _ _ h => h) (Or.inl ⟨by rfl, ?_⟩) (by assumption) ?_
                rotate_left
                · intro w hSw
                  try dsimp only at hSw
                  go_simp
                  first | done | with_reducible rfl
                try simp only [Act.put, List.setIfInBounds_toArray, List.set_cons_zero, List.set_cons_succ]
                refine wpAnyH_take (i := 2) (oi := { dst := some 46, op := Op.fieldAddr 32 (Operand.tmp 5) 2, type := 0, pos := "law.go:133", after := #[], guard := none }) (v := ?_) rfl (by kernel_rfl) (by kernel_rfl) (by kernel_rfl) (fun _ _ _ h => h) (Or.inl ⟨by rfl, ?_⟩) (by assumption) ?_
                rotate_left
                · intro w hSw
                  try dsimp only at hSw
                  go_simp
                  first | done | with_reducible rfl
                try simp only [Act.put, List.setIfInBounds_toArray, List.set_cons_zero, List.set_cons_succ]
                refine wpAnyH_take (i := 3) (oi := { dst := some 47, op := Op.load 9 (Operand.tmp 46), type := 9, pos := "law.go:133", after := #[{ on := 2, ground := Ground.data }], guard := none }) (v := ?_) rfl (by kernel_rfl) (by kernel_rfl) (by kernel_rfl) (fun _ _ _ h => h) (Or.inl ⟨by rfl, ?_⟩) (by assumption) ?_
                rotate_left
                · intro w hSw
                  try dsimp only at hSw
                  go_simp
                  first | done | with_reducible rfl
                try simp only [Act.put, List.setIfInBounds_toArray, List.set_cons_zero, List.set_cons_succ]
                refine wpAnyH_ready (rs := [1]) (by kernel_rfl) (by simp) ?_
                refine AllReadyH.cons (o := { dst := some 45, op := Op.call { callee := Callee.value (Operand.func 24), args := #[Operand.tmp 44], argTypes := #[24] }, type := 26, pos := "law.go:133", after := #[{ on := 0, ground := Ground.data }], guard := none }) rfl (fun K hK => ?_) AllReadyH.nil
                go_simp
                (go_at_call 24; refine (HW.out _ (os_of (by assumption))).mono ?_; rintro e w8 ⟨rfl, hs8, ho8⟩)
                try go_wp2_with fail
                refine hK.out _ _ ?_ (fun hHeld => ?_)
                · first | assumption | exact OS.held ho9 | exact OS.held ho8
                clear hK K
                try simp only [Act.put, List.setIfInBounds_toArray, List.set_cons_zero, List.set_cons_succ]
                refine wpAnyH_ready (rs := [4]) (by kernel_rfl) (by simp) ?_
                refine AllReadyH.cons (o := { dst := some 48, op := Op.call { callee := Callee.value (Operand.func 31), args := #[Operand.tmp 45, Operand.tmp 47], argTypes := #[26, 9] }, type := 4, pos := "law.go:133", after := #[{ on := 1, ground := Ground.data }, { on := 3, ground := Ground.data }, { on := 1, ground := Ground.chain }], guard := none }) rfl (fun K hK => ?_) AllReadyH.nil
                go_simp
                (go_at_call 31; refine (has_is st.nm _ _ _ w8 false hs8 h0).mono ?_; rintro e w' ⟨rfl, hw'⟩; subst w')
                try go_wp2_with fail
                refine hK.out _ _ ?_ (fun hHeld => ?_)
                · first | assumption | exact OS.held ho9 | exact OS.held ho8
                clear hK K
                try simp only [Act.put, List.setIfInBounds_toArray, List.set_cons_zero, List.set_cons_succ]
                refine wpAnyH_take (i := 5) (oi := { dst := some 49, op := Op.move (Operand.tmp 48), type := 4, pos := "law.go:133", after := #[{ on := 4, ground := Ground.data }, { on := 4, ground := Ground.chain }], guard := none }) (v := ?_) rfl (by kernel_rfl) (by kernel_rfl) (by kernel_rfl) (fun _ _ _ h => h) (Or.inl ⟨by rfl, ?_⟩) (by assumption) ?_
                rotate_left
                · intro w hSw
                  try dsimp only at hSw
                  go_simp
                  first | done | with_reducible rfl
                try simp only [Act.put, List.setIfInBounds_toArray, List.set_cons_zero, List.set_cons_succ]
                refine wpAnyH_take (i := 6) (oi := { dst := some 50, op := Op.move (Operand.tmp 3), type := 24, pos := "law.go:133", after := #[{ on := 5, ground := Ground.guard }], guard := some (5, false) }) (v := ?_) rfl (by kernel_rfl) (by kernel_rfl) (by kernel_rfl) (fun _ _ _ h => h) (Or.inl ⟨by rfl, ?_⟩) (by assumption) ?_
                rotate_left
                · intro w hSw
                  try dsimp only at hSw
                  go_simp
                  first | done | with_reducible rfl
                try simp only [Act.put, List.setIfInBounds_toArray, List.set_cons_zero, List.set_cons_succ]
                refine wpAnyH_take (i := 8) (oi := { dst := some 52, op := Op.fieldAddr 32 (Operand.tmp 5) 2, type := 0, pos := "law.go:133", after := #[{ on := 5, ground := Ground.guard }], guard := some (5, false) }) (v := ?_) rfl (by kernel_rfl) (by kernel_rfl) (by kernel_rfl) (fun _ _ _ h => h) (Or.inl ⟨by rfl, ?_⟩) (by assumption) ?_
                rotate_left
                · intro w hSw
                  try dsimp only at hSw
                  go_simp
                  first | done | with_reducible rfl
                try simp only [Act.put, List.setIfInBounds_toArray, List.set_cons_zero, List.set_cons_succ]
                refine wpAnyH_take (i := 9) (oi := { dst := some 53, op := Op.load 9 (Operand.tmp 52), type := 9, pos := "law.go:133", after := #[{ on := 8, ground := Ground.data }, { on := 5, ground := Ground.guard }], guard := some (5, false) }) (v := ?_) rfl (by kernel_rfl) (by kernel_rfl) (by kernel_rfl) (fun _ _ _ h => h) (Or.inl ⟨by rfl, ?_⟩) (by assumption) ?_
                rotate_left
                · intro w hSw
                  try dsimp only at hSw
                  go_simp
                  first | done | with_reducible rfl
                try simp only [Act.put, List.setIfInBounds_toArray, List.set_cons_zero, List.set_cons_succ]
                refine wpAnyH_ready (rs := [7]) (by kernel_rfl) (by simp) ?_
                refine AllReadyH.cons (o := { dst := some 51, op := Op.call { callee := Callee.value (Operand.func 25), args := #[Operand.tmp 50], argTypes := #[24] }, type := 26, pos := "law.go:133", after := #[{ on := 6, ground := Ground.data }, { on := 5, ground := Ground.chain }, { on := 5, ground := Ground.guard }], guard := some (5, false) }) rfl (fun K hK => ?_) AllReadyH.nil
                go_simp
                (go_at_call 25; refine (HU.out _ (os_of (by assumption))).mono ?_; rintro e w9 ⟨rfl, hs9, ho9, -⟩)
                try go_wp2_with fail
                refine hK.out _ _ ?_ (fun hHeld => ?_)
                · first | assumption | exact OS.held ho9 | exact OS.held ho8
                clear hK K
                try simp only [Act.put, List.setIfInBounds_toArray, List.set_cons_zero, List.set_cons_succ]
                refine wpAnyH_ready (rs := [10]) (by kernel_rfl) (by simp) ?_
                refine AllReadyH.cons (o := { dst := some 54, op := Op.call { callee := Callee.value (Operand.func 31), args := #[Operand.tmp 51, Operand.tmp 53], argTypes := #[26, 9] }, type := 4, pos := "law.go:133", after := #[{ on := 7, ground := Ground.data }, { on := 9, ground := Ground.data }, { on := 7, ground := Ground.chain }, { on := 5, ground := Ground.guard }], guard := some (5, false) }) rfl (fun K hK => ?_) AllReadyH.nil
                go_simp
                (go_at_call 31; refine (has_is st.nm _ _ _ w9 true hs9 h1).mono ?_; rintro e w' ⟨rfl, hw'⟩; subst w')
                try go_wp2_with fail
                refine hK.out _ _ ?_ (fun hHeld => ?_)
                · first | assumption | exact OS.held ho9 | exact OS.held ho8
                clear hK K
                try simp only [Act.put, List.setIfInBounds_toArray, List.set_cons_zero, List.set_cons_succ]
                refine wpAnyH_take (i := 11) (oi := { dst := some 55, op := Op.pick (Operand.tmp 49) (Operand.const (Value.bool true)) (Operand.tmp 54), type := 4, pos := "law.go:133", after := #[{ on := 5, ground := Ground.data }, { on := 10, ground := Ground.data }], guard := none }) (v := ?_) rfl (by kernel_rfl) (by kernel_rfl) (by kernel_rfl) (fun _ _ _ h => h) (Or.inl ⟨by rfl, ?_⟩) (by assumption) ?_
                rotate_left
                · intro w hSw
                  try dsimp only at hSw
                  go_simp
                  first | done | with_reducible rfl
                try simp only [Act.put, List.setIfInBounds_toArray, List.set_cons_zero, List.set_cons_succ]
                refine wpAnyH_take (i := 12) (oi := { dst := some 6, op := Op.assign (Operand.tmp 55), type := 4, pos := "law.go:133", after := #[{ on := 11, ground := Ground.data }, { on := 10, ground := Ground.chain }, { on := 0, ground := Ground.phase }, { on := 1, ground := Ground.phase }, { on := 2, ground := Ground.phase }, { on := 3, ground := Ground.phase }, { on := 4, ground := Ground.phase }, { on := 5, ground := Ground.phase }, { on := 6, ground := Ground.phase }, { on := 7, ground := Ground.phase }, { on := 8, ground := Ground.phase }, { on := 9, ground := Ground.phase }, { on := 10, ground := Ground.phase }, { on := 11, ground := Ground.phase }], guard := none }) (v := ?_) rfl (by kernel_rfl) (by kernel_rfl) (by kernel_rfl) (fun _ _ _ h => h) (Or.inl ⟨by rfl, ?_⟩) (by assumption) ?_
                rotate_left
                · intro w hSw
                  try dsimp only at hSw
                  go_simp
                  first | done | with_reducible rfl
                try simp only [Act.put, List.setIfInBounds_toArray, List.set_cons_zero, List.set_cons_succ]
                refine wpAnyH_done (by kernel_rfl) ?_ _
                go_wp2_with fail
                go_meet
                exact ⟨by simp [h0, h1], ho9⟩
              | false =>
                refine wp_region_held_drew (S := fun w' => w'.cell? ⟨z, 2, none⟩ = some (.string st.nm) ∧ OS w3 A B g z L M st w') (by kernel_rfl) ?_ (fun hHeld => ?_)
                · exact OS.held (HO7.out.same (below_drewN (Below.refl _ _) 1))
                refine wpAnyH_take (i := 0) (oi := { dst := some 44, op := Op.move (Operand.tmp 3), type := 24, pos := "law.go:133", after := #[], guard := none }) (v := ?_) rfl (by kernel_rfl) (by kernel_rfl) (by kernel_rfl) (fun _ _ _ h => h) (Or.inl ⟨by rfl, ?_⟩) (by assumption) ?_
                rotate_left
                · intro w hSw
                  try dsimp only at hSw
                  go_simp
                  first | done | with_reducible rfl
                try simp only [Act.put, List.setIfInBounds_toArray, List.set_cons_zero, List.set_cons_succ]
                refine wpAnyH_take (i := 2) (oi := { dst := some 46, op := Op.fieldAddr 32 (Operand.tmp 5) 2, type := 0, pos := "law.go:133", after := #[], guard := none }) (v := ?_) rfl (by kernel_rfl) (by kernel_rfl) (by kernel_rfl) (fun _ _ _ h => h) (Or.inl ⟨by rfl, ?_⟩) (by assumption) ?_
                rotate_left
                · intro w hSw
                  try dsimp only at hSw
                  go_simp
                  first | done | with_reducible rfl
                try simp only [Act.put, List.setIfInBounds_toArray, List.set_cons_zero, List.set_cons_succ]
                refine wpAnyH_take (i := 3) (oi := { dst := some 47, op := Op.load 9 (Operand.tmp 46), type := 9, pos := "law.go:133", after := #[{ on := 2, ground := Ground.data }], guard := none }) (v := ?_) rfl (by kernel_rfl) (by kernel_rfl) (by kernel_rfl) (fun _ _ _ h => h) (Or.inl ⟨by rfl, ?_⟩) (by assumption) ?_
                rotate_left
                · intro w hSw
                  try dsimp only at hSw
                  go_simp
                  first | done | with_reducible rfl
                try simp only [Act.put, List.setIfInBounds_toArray, List.set_cons_zero, List.set_cons_succ]
                refine wpAnyH_ready (rs := [1]) (by kernel_rfl) (by simp) ?_
                refine AllReadyH.cons (o := { dst := some 45, op := Op.call { callee := Callee.value (Operand.func 24), args := #[Operand.tmp 44], argTypes := #[24] }, type := 26, pos := "law.go:133", after := #[{ on := 0, ground := Ground.data }], guard := none }) rfl (fun K hK => ?_) AllReadyH.nil
                go_simp
                (go_at_call 24; refine (HW.out _ (os_of (by assumption))).mono ?_; rintro e w8 ⟨rfl, hs8, ho8⟩)
                try go_wp2_with fail
                refine hK.out _ _ ?_ (fun hHeld => ?_)
                · first | assumption | exact OS.held ho9 | exact OS.held ho8
                clear hK K
                try simp only [Act.put, List.setIfInBounds_toArray, List.set_cons_zero, List.set_cons_succ]
                refine wpAnyH_ready (rs := [4]) (by kernel_rfl) (by simp) ?_
                refine AllReadyH.cons (o := { dst := some 48, op := Op.call { callee := Callee.value (Operand.func 31), args := #[Operand.tmp 45, Operand.tmp 47], argTypes := #[26, 9] }, type := 4, pos := "law.go:133", after := #[{ on := 1, ground := Ground.data }, { on := 3, ground := Ground.data }, { on := 1, ground := Ground.chain }], guard := none }) rfl (fun K hK => ?_) AllReadyH.nil
                go_simp
                (go_at_call 31; refine (has_is st.nm _ _ _ w8 false hs8 h0).mono ?_; rintro e w' ⟨rfl, hw'⟩; subst w')
                try go_wp2_with fail
                refine hK.out _ _ ?_ (fun hHeld => ?_)
                · first | assumption | exact OS.held ho9 | exact OS.held ho8
                clear hK K
                try simp only [Act.put, List.setIfInBounds_toArray, List.set_cons_zero, List.set_cons_succ]
                refine wpAnyH_take (i := 5) (oi := { dst := some 49, op := Op.move (Operand.tmp 48), type := 4, pos := "law.go:133", after := #[{ on := 4, ground := Ground.data }, { on := 4, ground := Ground.chain }], guard := none }) (v := ?_) rfl (by kernel_rfl) (by kernel_rfl) (by kernel_rfl) (fun _ _ _ h => h) (Or.inl ⟨by rfl, ?_⟩) (by assumption) ?_
                rotate_left
                · intro w hSw
                  try dsimp only at hSw
                  go_simp
                  first | done | with_reducible rfl
                try simp only [Act.put, List.setIfInBounds_toArray, List.set_cons_zero, List.set_cons_succ]
                refine wpAnyH_take (i := 6) (oi := { dst := some 50, op := Op.move (Operand.tmp 3), type := 24, pos := "law.go:133", after := #[{ on := 5, ground := Ground.guard }], guard := some (5, false) }) (v := ?_) rfl (by kernel_rfl) (by kernel_rfl) (by kernel_rfl) (fun _ _ _ h => h) (Or.inl ⟨by rfl, ?_⟩) (by assumption) ?_
                rotate_left
                · intro w hSw
                  try dsimp only at hSw
                  go_simp
                  first | done | with_reducible rfl
                try simp only [Act.put, List.setIfInBounds_toArray, List.set_cons_zero, List.set_cons_succ]
                refine wpAnyH_take (i := 8) (oi := { dst := some 52, op := Op.fieldAddr 32 (Operand.tmp 5) 2, type := 0, pos := "law.go:133", after := #[{ on := 5, ground := Ground.guard }], guard := some (5, false) }) (v := ?_) rfl (by kernel_rfl) (by kernel_rfl) (by kernel_rfl) (fun _ _ _ h => h) (Or.inl ⟨by rfl, ?_⟩) (by assumption) ?_
                rotate_left
                · intro w hSw
                  try dsimp only at hSw
                  go_simp
                  first | done | with_reducible rfl
                try simp only [Act.put, List.setIfInBounds_toArray, List.set_cons_zero, List.set_cons_succ]
                refine wpAnyH_take (i := 9) (oi := { dst := some 53, op := Op.load 9 (Operand.tmp 52), type := 9, pos := "law.go:133", after := #[{ on := 8, ground := Ground.data }, { on := 5, ground := Ground.guard }], guard := some (5, false) }) (v := ?_) rfl (by kernel_rfl) (by kernel_rfl) (by kernel_rfl) (fun _ _ _ h => h) (Or.inl ⟨by rfl, ?_⟩) (by assumption) ?_
                rotate_left
                · intro w hSw
                  try dsimp only at hSw
                  go_simp
                  first | done | with_reducible rfl
                try simp only [Act.put, List.setIfInBounds_toArray, List.set_cons_zero, List.set_cons_succ]
                refine wpAnyH_ready (rs := [7]) (by kernel_rfl) (by simp) ?_
                refine AllReadyH.cons (o := { dst := some 51, op := Op.call { callee := Callee.value (Operand.func 25), args := #[Operand.tmp 50], argTypes := #[24] }, type := 26, pos := "law.go:133", after := #[{ on := 6, ground := Ground.data }, { on := 5, ground := Ground.chain }, { on := 5, ground := Ground.guard }], guard := some (5, false) }) rfl (fun K hK => ?_) AllReadyH.nil
                go_simp
                (go_at_call 25; refine (HU.out _ (os_of (by assumption))).mono ?_; rintro e w9 ⟨rfl, hs9, ho9, -⟩)
                try go_wp2_with fail
                refine hK.out _ _ ?_ (fun hHeld => ?_)
                · first | assumption | exact OS.held ho9 | exact OS.held ho8
                clear hK K
                try simp only [Act.put, List.setIfInBounds_toArray, List.set_cons_zero, List.set_cons_succ]
                refine wpAnyH_ready (rs := [10]) (by kernel_rfl) (by simp) ?_
                refine AllReadyH.cons (o := { dst := some 54, op := Op.call { callee := Callee.value (Operand.func 31), args := #[Operand.tmp 51, Operand.tmp 53], argTypes := #[26, 9] }, type := 4, pos := "law.go:133", after := #[{ on := 7, ground := Ground.data }, { on := 9, ground := Ground.data }, { on := 7, ground := Ground.chain }, { on := 5, ground := Ground.guard }], guard := some (5, false) }) rfl (fun K hK => ?_) AllReadyH.nil
                go_simp
                (go_at_call 31; refine (has_is st.nm _ _ _ w9 false hs9 h1).mono ?_; rintro e w' ⟨rfl, hw'⟩; subst w')
                try go_wp2_with fail
                refine hK.out _ _ ?_ (fun hHeld => ?_)
                · first | assumption | exact OS.held ho9 | exact OS.held ho8
                clear hK K
                try simp only [Act.put, List.setIfInBounds_toArray, List.set_cons_zero, List.set_cons_succ]
                refine wpAnyH_take (i := 11) (oi := { dst := some 55, op := Op.pick (Operand.tmp 49) (Operand.const (Value.bool true)) (Operand.tmp 54), type := 4, pos := "law.go:133", after := #[{ on := 5, ground := Ground.data }, { on := 10, ground := Ground.data }], guard := none }) (v := ?_) rfl (by kernel_rfl) (by kernel_rfl) (by kernel_rfl) (fun _ _ _ h => h) (Or.inl ⟨by rfl, ?_⟩) (by assumption) ?_
                rotate_left
                · intro w hSw
                  try dsimp only at hSw
                  go_simp
                  first | done | with_reducible rfl
                try simp only [Act.put, List.setIfInBounds_toArray, List.set_cons_zero, List.set_cons_succ]
                refine wpAnyH_take (i := 12) (oi := { dst := some 6, op := Op.assign (Operand.tmp 55), type := 4, pos := "law.go:133", after := #[{ on := 11, ground := Ground.data }, { on := 10, ground := Ground.chain }, { on := 0, ground := Ground.phase }, { on := 1, ground := Ground.phase }, { on := 2, ground := Ground.phase }, { on := 3, ground := Ground.phase }, { on := 4, ground := Ground.phase }, { on := 5, ground := Ground.phase }, { on := 6, ground := Ground.phase }, { on := 7, ground := Ground.phase }, { on := 8, ground := Ground.phase }, { on := 9, ground := Ground.phase }, { on := 10, ground := Ground.phase }, { on := 11, ground := Ground.phase }], guard := none }) (v := ?_) rfl (by kernel_rfl) (by kernel_rfl) (by kernel_rfl) (fun _ _ _ h => h) (Or.inl ⟨by rfl, ?_⟩) (by assumption) ?_
                rotate_left
                · intro w hSw
                  try dsimp only at hSw
                  go_simp
                  first | done | with_reducible rfl
                try simp only [Act.put, List.setIfInBounds_toArray, List.set_cons_zero, List.set_cons_succ]
                refine wpAnyH_done (by kernel_rfl) ?_ _
                go_wp2_with fail
                go_meet
                exact ⟨by simp [h0, h1], ho9⟩
          case rest =>
            obtain ⟨rfl, hO⟩ := hcut
            obtain ⟨-, -, z2, -, -⟩ := hO.s.cells
            obtain ⟨vb, hvb⟩ : ∃ vb, (isIn st.nm L || isIn st.nm M) = vb := ⟨_, rfl⟩
            have he1 := OS.ends wc hO vb hvb
            rw [hvb]
            have HWL := Hid.mk' (wo_len st.nm M)
            have HIW : Hid ((isIn st.nm (wo st.nm L) || isIn st.nm (wo st.nm M)) = false) := by show _ = _; rw [isIn_wo, isIn_wo]; rfl
            clear HW HU y2 hvb hO
            go_wp2_with fail
            refine he1.mono ?_
            rintro e w10 ⟨rfl, hO10⟩
            have he2 := OS.ends w10 hO10 false HIW.out
            obtain ⟨-, -, z10, -, -⟩ := hO10.s.cells
            clear he1 z2
            have hbe : (vb != vb) = false := by simp
            go_wp2_with fail
            refine he2.mono ?_
            rintro e w11 ⟨rfl, hO11⟩
            go_wp2_with fail
            go_meet
            exact ⟨_, _, by have := HWL.out; have := wo_len st.nm (wo st.nm M); omega, hO11⟩
        · have h0 : (kk == 0) = false := by rw [beq_eq_false_iff_ne]; omega
          have h1 : (kk == 1) = false := by rw [beq_eq_false_iff_ne]; omega
          have h2 : (kk == 2) = false := by rw [beq_eq_false_iff_ne]; omega
          clear hkk
          go_wp2_with fail
          go_meet
          exact ⟨_, _, by omega, HO7.out⟩
      case rest =>
        obtain ⟨L2, M2, hM2, hO⟩ := hcut
        have hfew := hO.v.few
        have hw := OS.waits hfew wc hO
        have HU : Hid (∀ w', OS w3 A B g z L2 M2 st w' → Calls Try.prog 25 #[.pointer (some ⟨g, 0, none⟩)] w' fun e w'' => e = .returned (.slice (some ⟨w'.heap.size, 0, none⟩) M2.length M2.length) ∧ StrsAt w'' (some ⟨w'.heap.size, 0, none⟩) M2.length M2.length (nms M2) ∧ OS w3 A B g z L2 M2 st w'' ∧ Below w'.heap.size w' w'') := fun w' h => OS.under (by omega) w' h
        have HV2 := Hid.mk' hO.v
        clear hO
        go_wp2_with fail
        refine hw.mono ?_
        rintro e w8 ⟨rfl, hs8, ho8⟩
        have hu := HU.out w8 ho8
        clear hw ho8 HU
        go_wp2_with fail
        refine hu.mono ?_
        rintro e w9 ⟨rfl, hs9, ho9, hb9⟩
        have HS8 := Hid.mk' (hs8.below (Nat.le_refl _) hb9)
        have HS9 := Hid.mk' hs9
        have HO9 := Hid.mk' ho9
        have HLL : Hid ((nms L2).length = L2.length ∧ (nms M2).length = M2.length) := ⟨nms_length _, nms_length _⟩
        have HF : Hid (L2.length ≤ 16 ∧ M2.length ≤ 900 ∧ M2.length ≤ i + 1) := ⟨hfew, by omega, hM2⟩
        obtain ⟨p8, hp8⟩ : ∃ p8, wc.heap.size = p8 := ⟨_, rfl⟩
        rw [hp8] at HS8 ⊢
        generalize w8.heap.size = p9 at *
        generalize hnl : L2.length = nl at *
        generalize hnm : M2.length = nm at *
        clear hu hs8 hs9 ho9 hb9 hp8 hnl hnm hM2 hfew
        have hF := HF.out
        go_wp2
        go_loopw [9] (fun v9 wr => ∃ k : Nat, v9 = .int .i64 k ∧ k ≤ nl ∧ Below w9.heap.size w9 wr) (fun v9 _ => nl + 1 - (intOf v9).toNat)
        case atStart => exact ⟨0, rfl, Nat.zero_le _, Below.refl _ _⟩
        case round =>
          obtain ⟨k, rfl, hk, hbw⟩ := hrel
          by_cases hkl : k < nl
          · have h8 := HS8.out.below (Nat.le_refl _) hbw
            have h9 := HS9.out.below (Nat.le_refl _) hbw
            obtain ⟨b8, o8, e8, hb8, hc8⟩ := h8.at_ k hkl
            cases e8
            rw [Nat.zero_add] at hc8
            have hkn : k < (nms L2).length := by rw [HLL.out.1]; exact hkl
            have hmem := getD_mem hkn
            have v1 : hasB (nms M2) ((nms L2).getD k ⟨#[]⟩) = false := hasB_not.2 (HV2.out.apart _ hmem)
            have v2 : hasB ((nms L2).take k) ((nms L2).getD k ⟨#[]⟩) = false := hasB_take HV2.out.n1 hkn
            have c1 : ∀ q, Calls Try.prog 31 #[.slice (some ⟨p9, 0, none⟩) nm nm, .string ((nms L2).getD k ⟨#[]⟩)] (wr.drewN q) fun e w' => e = .returned (.bool false) ∧ w' = wr.drewN q := fun q => by
              have := has_any _ nm nm (nms M2) ((nms L2).getD k ⟨#[]⟩) (wr.drewN q) (h9.drewN q)
              rwa [v1] at this
            have c2 : ∀ q, Calls Try.prog 31 #[.slice (some ⟨p8, 0, none⟩) k nl, .string ((nms L2).getD k ⟨#[]⟩)] (wr.drewN q) fun e w' => e = .returned (.bool false) ∧ w' = wr.drewN q := fun q => by
              have := has_any _ k nl ((nms L2).take k) ((nms L2).getD k ⟨#[]⟩) (wr.drewN q) ((h8.take (Nat.le_of_lt hkl)).drewN q)
              rwa [v2] at this
            have hkl' : (k : Int) < (nl : Int) := by omega
            generalize (nms L2).getD k ⟨#[]⟩ = f at *
            clear h8 h9 v1 v2 hmem hkn
            go_wp2_with fail
            go_quiet (first
              | (go_at_call_of 31 (Value.slice (some ⟨p9, 0, none⟩) nm nm); exact quiet1_same (c1 _))
              | (go_at_call_of 31 (Value.slice (some ⟨p8, 0, none⟩) k nl); exact quiet1_same (c2 _)))
            go_wp2
            exact ⟨⟨k + 1, by simp, by omega, below_drewN hbw _⟩, by simp [intOf]; omega⟩
          · obtain rfl : nl = k := by omega
            have HB1 := Hid.mk' hbw
            clear hbw
            go_wp2
            go_loopw [10] (fun v10 wr => ∃ k : Nat, v10 = .int .i64 k ∧ k ≤ nm ∧ Below w9.heap.size w9 wr) (fun v10 _ => nm + 1 - (intOf v10).toNat)
            case atStart => exact ⟨0, rfl, Nat.zero_le _, HB1.out⟩
            case round =>
              obtain ⟨k, rfl, hk, hbw⟩ := hrel
              by_cases hkl : k < nm
              · have h9 := HS9.out.below (Nat.le_refl _) hbw
                obtain ⟨b8, o8, e8, hb8, hc8⟩ := h9.at_ k hkl
                cases e8
                rw [Nat.zero_add] at hc8
                have hkn : k < (nms M2).length := by rw [HLL.out.2]; exact hkl
                have v2 : hasB ((nms M2).take k) ((nms M2).getD k ⟨#[]⟩) = false := hasB_take HV2.out.n2 hkn
                have c2 : ∀ q, Calls Try.prog 31 #[.slice (some ⟨p9, 0, none⟩) k nm, .string ((nms M2).getD k ⟨#[]⟩)] (wr.drewN q) fun e w' => e = .returned (.bool false) ∧ w' = wr.drewN q := fun q => by
                  have := has_any _ k nm ((nms M2).take k) ((nms M2).getD k ⟨#[]⟩) (wr.drewN q) ((h9.take (Nat.le_of_lt hkl)).drewN q)
                  rwa [v2] at this
                have hkl' : (k : Int) < (nm : Int) := by omega
                generalize (nms M2).getD k ⟨#[]⟩ = f at *
                clear h9 v2 hkn
                go_wp2_with fail
                go_quiet (first
                  | (go_at_call_of 31 (Value.slice (some ⟨p9, 0, none⟩) k nm); exact quiet1_same (c2 _)))
                go_wp2
                exact ⟨⟨k + 1, by simp, by omega, below_drewN hbw _⟩, by simp [intOf]; omega⟩
              · obtain rfl : nm = k := by omega
                have hfe : ¬ ((nl : Int) > 16) := by omega
                have hoE := HO9.out.same hbw
                have HE : Hid (DIn wr A g 0 L2 M2 ∧ Inv L2 M2 ∧ Keep A w3 wr) := ⟨hoE.d.fewer hoE.sub, hoE.v, hoE.keep⟩
                clear hoE
                go_wp2
                exact ⟨⟨i + 1, L2, M2, by simp, by omega, HE.out.1, HE.out.2.1, by rw [← nms_length M2, HLL.out.2]; exact hF.2.2, HE.out.2.2⟩, by simp [intOf]; omega⟩
    · obtain rfl : n = i := by omega
      have HE : Hid (Below w.heap.size w wr) := HB.out.trans (HK.out.below HB.out.size (fun k hk => HAA.out k hk))
      go_wp2
      go_ret
      exact ⟨rfl, HE.out⟩

end Go.Proofs.Ythobihlnjcphaaa
