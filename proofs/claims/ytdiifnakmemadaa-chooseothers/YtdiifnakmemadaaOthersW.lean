/-
  ChooseOthers's walk: hosts that aren't Active change no choice, wherever they stand: it returns true and turns nothing that was there. Conditions: the hosts lie where they are said to lie.
-/
import Derived.Test.YtdiifnakmemadaaLives
import Derived.Test.YtdiifnakmemadaaOthersP
import Derived.Test.YtdiifnakmemadaaInts
namespace Go.Proofs.Ytdiifnakmemadaa
open Go.ChangeShapes Go.WideShapes Go.ChangeAt Go.RowKit

def idxI (l : List Hs) (k : Nat) : List Int := (idxL l k).map fun j : Nat => (j : Int)
theorem idxI_at (l : List Hs) (k q : Nat) : (idxI l k).getD q 0 = (((idxL l k).getD q 0 : Nat) : Int) := by
  unfold idxI
  by_cases hq : q < (idxL l k).length
  · simp [List.getD, hq]
  · simp [List.getD, hq]

theorem IntsAt.block {w : World} {a : Option Addr} {len cap : Nat} {zs : List Int} (h : IntsAt w a len cap zs) (h0 : 0 < len) : ∃ b off, a = some ⟨b, off, none⟩ ∧ ∀ j, j < len → w.cell? ⟨b, off + j, none⟩ = some (.int .i64 (zs.getD j 0)) := by
  obtain ⟨b, off, e, _, _⟩ := h.at_ 0 h0
  refine ⟨b, off, e, fun j hj => ?_⟩
  obtain ⟨b', off', e', _, hx⟩ := h.at_ j hj
  rw [e] at e'
  cases e'
  exact hx

/-- What two calls tell: of all, and of the Active ones. -/
theorem both (l : List Hs) (n nn : Nat) (o o' : Option Nat) (h : (o' = none ∧ o = none) ∨ ∃ q, q < nn ∧ o' = some q ∧ o = some ((idxL l n).getD q 0)) :
    ∃ P P' B, ans o = .tuple #[.int .i64 P, .bool B] ∧ ans o' = .tuple #[.int .i64 P', .bool B] ∧ (B = false ∨ (B = true ∧ ∃ q : Nat, q < nn ∧ P' = (q : Int) ∧ (idxI l n).getD q 0 = P)) := by
  rcases h with ⟨rfl, rfl⟩ | ⟨q, hq, rfl, rfl⟩
  · exact ⟨0, 0, false, rfl, rfl, .inl rfl⟩
  · exact ⟨_, _, true, rfl, rfl, .inr ⟨rfl, q, hq, rfl, idxI_at l n q⟩⟩

set_option maxHeartbeats 2000000 in
set_option maxRecDepth 100000 in
theorem others_walk (a1 : Option Addr) (l1 c1 : Nat) (hs : List Hs) (each warm : Int) (w : World) (hz : HostsAt w a1 l1 c1 hs) :
    Calls Try.prog 6 #[.slice a1 l1 c1, .int .i64 each, .int .i64 warm] w fun e w' => e = .returned (.bool true) ∧ Below w.heap.size w w' := by
  have HZ := Hid.mk' hz
  clear hz
  go_enter Try.func6, Try.ntmps6
  go_wp2_with fail
  refine (lives_any _).mono ?_
  rintro e w1 ⟨rfl, hb1⟩
  have hf := few_any a1 l1 c1 hs w1 (HZ.out.below hb1)
  go_wp2_with fail
  refine hf.mono ?_
  rintro e w2 ⟨v, n, l, rfl, hn, hl, hsm, ho, hb2⟩
  obtain ⟨a2, c2, rfl, hh2, -⟩ := owns_hosts ho
  have hf2 := as_any a2 n c2 l w2 hh2 hn
  have HB2 : Hid (Below w.heap.size w w2) := below_trans hb1 hb2
  clear hf hb1 hb2 ho hh2
  go_wp2_with fail
  refine hf2.mono ?_
  rintro e w3 ⟨v, rfl, ho, hb3⟩
  obtain ⟨a3, c3, rfl, hh3, -⟩ := owns_hosts ho
  have HB3 : Hid (Below w.heap.size w w3) := below_trans HB2.out hb3
  have HH3 := Hid.mk' hh3
  have hle := hh3.hle
  have hc := hh3.hcap
  have HL := Hid.mk' hl
  unfold maxLen at hc
  clear hf2 ho hh3 hb3 HB2 hsm hl
  go_wp2
  go_loopw [8, 9, 10] (fun v8 v9 v10 wr => ∃ i nn : Nat, v10 = .int .i64 i ∧ i ≤ n ∧ nn ≤ i ∧ wr.ownsRow w3.heap.size 38 5 v8 nn (hcs (actL l i)) ∧ wr.ownsRow w3.heap.size 3 1 v9 nn (ic (idxI l i)) ∧ Below w3.heap.size w3 wr) (fun _ _ v10 _ => n + 1 - (intOf v10).toNat)
  case atStart => exact ⟨0, 0, rfl, Nat.zero_le _, Nat.le_refl _, World.ownsRow_nil _ _ _ _, World.ownsRow_nil _ _ _ _, Below.refl _ _⟩
  case round =>
    obtain ⟨i, nn, rfl, hi, hnn, ho1, ho2, hbl⟩ := hrel
    by_cases h1 : i < n
    · obtain ⟨b, off, rfl, hlt, c0, c1, c2, c3, c4⟩ := (HH3.out.below hbl).rd i h1
      have hix := idxL_succ l i
      have hszb := hbl.size
      have HA1 : Hid (actL l (i + 1) = (idxL l (i + 1)).map fun j => l.getD j z0) := rfl
      have HI1 : Hid (idxI l (i + 1) = (idxL l (i + 1)).map fun j : Nat => (j : Int)) := rfl
      by_cases hst : ((l.getD i z0).st == 0) = true
      · rw [if_pos hst] at hix
        have HA2 : Hid (actL l i ++ [l.getD i z0] = actL l (i + 1)) := by
          show _ = _
          rw [HA1.out, hix, List.map_append]
          rfl
        have HI2 : Hid (idxI l i ++ [(i : Int)] = idxI l (i + 1)) := by
          show _ = _
          rw [HI1.out, hix, List.map_append]
          rfl
        clear HA1 HI1 hix
        generalize l.getD i z0 = h at *
        obtain ⟨s, m, d, bz, y⟩ := h
        simp only [] at c0 c1 c2 c3 c4 hst
        have o1 := ho1.alloc (.cells #[.int .i64 s, .int .i64 m, .int .i64 d, .int .i64 bz, .bool y] 38)
        have o2 := ho2.alloc (.cells #[.int .i64 s, .int .i64 m, .int .i64 d, .int .i64 bz, .bool y] 38)
        have hne := rows_ne o2 o1 (by decide)
        have hone := host_at wr s m d bz y 38
        have HBL : Hid (Below w3.heap.size w3 wr) := hbl
        clear hbl ho1 ho2
        go_wp2_with (first
          | (at_builtin; refine wpList_host _ rfl _ _ 25 38 Try.underlying25 info38 rfl w3.heap.size u8 nn _ ⟨s, m, d, bz, y⟩ rfl o1 _ 1 rfl hone (by omega) (by simp; omega) _ HA2.out ?_; intro v7 w7 o7 g7; have hb7 := below_grown o1 g7 (HBL.out.alloc hszb _) (Nat.le_refl _); have o8 := (owns_grown o2 g7 (fun k e1 e2 => hne k e1 e2)).alloc (.cells #[.int .i64 (i : Int)] 3); have o9 := o7.alloc (.cells #[.int .i64 (i : Int)] 3); clear o1 o2 hone g7 o7)
          | (at_builtin; refine wpList_int _ rfl _ _ rfl w3.heap.size u9 nn _ (i : Int) rfl o8 _ 1 rfl (int_at w7 (i : Int)) (by omega) (by have := hb7.size; simp; omega) _ HI2.out ?_; intro v10 w10 o10 g10))
        have hs7 := hb7.size
        have HE : Hid (w10.ownsRow w3.heap.size 38 5 v7 (nn + 1) (hcs (actL l (i + 1))) ∧ Below w3.heap.size w3 w10) := ⟨owns_grown o9 g10 (fun k e1 e2 => rows_ne o9 o8 (by decide) k e1 e2), below_grown o8 g10 (hb7.alloc hs7 _) (Nat.le_refl _)⟩
        exact ⟨⟨i + 1, nn + 1, by simp, by omega, by omega, HE.out.1, o10, HE.out.2⟩, by simp [intOf]; omega⟩
      · rw [if_neg hst] at hix
        have hst2 : ((l.getD i z0).st == 0) = false := by simpa using hst
        have HA2 : Hid (actL l (i + 1) = actL l i) := by
          show _ = _
          rw [HA1.out, hix]
          rfl
        have HI2 : Hid (idxI l (i + 1) = idxI l i) := by
          show _ = _
          rw [HI1.out, hix]
          rfl
        generalize l.getD i z0 = h at *
        obtain ⟨s, m, d, bz, y⟩ := h
        simp only [] at c0 c1 c2 c3 c4 hst2
        have HE := Hid.mk' (And.intro ho1 (And.intro ho2 hbl))
        clear HA1 HI1 hix hst hbl ho1 ho2
        go_wp2
        exact ⟨⟨i + 1, nn, by simp, by omega, by omega, by rw [HA2.out]; exact HE.out.1, by rw [HI2.out]; exact HE.out.2.1, HE.out.2.2⟩, by simp [intOf]; omega⟩
    · obtain rfl : i = n := by omega
      obtain ⟨a4, c4, rfl, hh4, -⟩ := owns_hosts ho1
      obtain ⟨a5, c5, rfl, hi5⟩ := owns_ints ho2
      have hnl : (idxL l i).length = nn := by rw [← actL_length]; exact hh4.hlen
      obtain ⟨P1, Q1, B1, e1, e1', hB1⟩ := both l i nn _ _ (lst_act servesH busyH serves_st hnl)
      obtain ⟨P2, Q2, B2, e2, e2', hB2⟩ := both l i nn _ _ (lst_act (opensH each) allH (opens_st each) hnl)
      obtain ⟨P3, Q3, B3, e3, e3', hB3⟩ := both l i nn _ _ (fst_act (warmH each warm) (warm_st each warm) HL.out hnl)
      have H10 : Hid (∀ wx, Below wr.heap.size wr wx → Calls Try.prog 10 #[.slice a3 i c3] wx fun e w' => e = .returned (.tuple #[.int .i64 P1, .bool B1]) ∧ Below wx.heap.size wx w') := fun wx hb => by
        have := Serve_any wx a3 i c3 l (HH3.out.below (below_trans hbl hb))
        rwa [e1] at this
      have H10' : Hid (∀ wx, Below wr.heap.size wr wx → Calls Try.prog 10 #[.slice a4 nn c4] wx fun e w' => e = .returned (.tuple #[.int .i64 Q1, .bool B1]) ∧ Below wx.heap.size wx w') := fun wx hb => by
        have := Serve_any wx a4 nn c4 (actL l i) (hh4.below hb)
        rwa [e1'] at this
      have H12 : Hid (∀ wx, Below wr.heap.size wr wx → Calls Try.prog 12 #[.slice a3 i c3, .int .i64 each] wx fun e w' => e = .returned (.tuple #[.int .i64 P2, .bool B2]) ∧ Below wx.heap.size wx w') := fun wx hb => by
        have := Open_any wx a3 i c3 l each (HH3.out.below (below_trans hbl hb))
        rwa [e2] at this
      have H12' : Hid (∀ wx, Below wr.heap.size wr wx → Calls Try.prog 12 #[.slice a4 nn c4, .int .i64 each] wx fun e w' => e = .returned (.tuple #[.int .i64 Q2, .bool B2]) ∧ Below wx.heap.size wx w') := fun wx hb => by
        have := Open_any wx a4 nn c4 (actL l i) each (hh4.below hb)
        rwa [e2'] at this
      have H14 : Hid (∀ wx, Below wr.heap.size wr wx → Calls Try.prog 14 #[.slice a3 i c3, .int .i64 each, .int .i64 warm] wx fun e w' => e = .returned (.tuple #[.int .i64 P3, .bool B3]) ∧ Below wx.heap.size wx w') := fun wx hb => by
        have := Warm_any wx a3 i c3 l each warm (HH3.out.below (below_trans hbl hb))
        rwa [e3] at this
      have H14' : Hid (∀ wx, Below wr.heap.size wr wx → Calls Try.prog 14 #[.slice a4 nn c4, .int .i64 each, .int .i64 warm] wx fun e w' => e = .returned (.tuple #[.int .i64 Q3, .bool B3]) ∧ Below wx.heap.size wx w') := fun wx hb => by
        have := Warm_any wx a4 nn c4 (actL l i) each warm (hh4.below hb)
        rwa [e3'] at this
      have HI5 := Hid.mk' hi5
      have HBL := Hid.mk' (And.intro hbl (And.intro hh4.hle hh4.hcap))
      have HX1 := Hid.mk' hB1
      have HX2 := Hid.mk' hB2
      have HX3 := Hid.mk' hB3
      clear e1 e1' e2 e2' e3 e3' hnl hh4 hi5 ho1 ho2 hB1 hB2 hB3
      have hb00 : Below wr.heap.size wr wr := Below.refl _ _
      clear hbl
      go_upto_region 13 with (first
        | (go_at_call 10; refine (H10.out _ hb00).mono ?_; rintro e w4 ⟨rfl, hb4⟩))
      clear H10
      go_upto_region 14 with (first
        | (go_at_call 10; refine (H10'.out _ hb4).mono ?_; rintro e w5 ⟨rfl, hb5⟩))
      have hc5' := below_trans hb4 hb5
      clear H10' hb4 hb5
      go_upto_region 15 with (first
        | (go_at_call 12; refine (H12.out _ hc5').mono ?_; rintro e w6 ⟨rfl, hb6⟩))
      have hc6 := below_trans hc5' hb6
      clear H12 hb6 hc5'
      go_upto_region 16 with (first
        | (go_at_call 12; refine (H12'.out _ hc6).mono ?_; rintro e w7 ⟨rfl, hb7⟩))
      have hc7 := below_trans hc6 hb7
      clear H12' hb7 hc6
      go_upto_region 17 with (first
        | (go_at_call 14; refine (H14.out _ hc7).mono ?_; rintro e w8 ⟨rfl, hb8⟩))
      have hc8 := below_trans hc7 hb8
      clear H14 hb8 hc7
      go_upto_region 18 with (first
        | (go_at_call 14; refine (H14'.out _ hc8).mono ?_; rintro e w9 ⟨rfl, hb9⟩))
      have hc9 := below_trans hc8 hb9
      clear H14' hb9 hc8
      have hi9 := HI5.out.below hc9
      have hle9 := hi9.hle
      have hcp9 := hi9.hcap
      unfold maxLen at hcp9
      have HF : Hid (Below w.heap.size w w9) := below_trans (below_trans HB3.out HBL.out.1) hc9
      clear hc9 HI5 HBL HB3
      by_cases h0 : 0 < nn
      · obtain ⟨b5, off5, rfl, hcell⟩ := hi9.block h0
        have HC5 := Hid.mk' hcell
        have hY1 : B1 = false ∨ (B1 = true ∧ ∃ q : Nat, (q : Int) < (nn : Int) ∧ Q1 = (q : Int) ∧ w9.cell? ⟨b5, off5 + q, none⟩ = some (.int .i64 P1)) := HX1.out.imp id fun ⟨h, q, hq, e, hz⟩ => ⟨h, q, by omega, e, by rw [← hz]; exact HC5.out q hq⟩
        have hY2 : B2 = false ∨ (B2 = true ∧ ∃ q : Nat, (q : Int) < (nn : Int) ∧ Q2 = (q : Int) ∧ w9.cell? ⟨b5, off5 + q, none⟩ = some (.int .i64 P2)) := HX2.out.imp id fun ⟨h, q, hq, e, hz⟩ => ⟨h, q, by omega, e, by rw [← hz]; exact HC5.out q hq⟩
        have hY3 : B3 = false ∨ (B3 = true ∧ ∃ q : Nat, (q : Int) < (nn : Int) ∧ Q3 = (q : Int) ∧ w9.cell? ⟨b5, off5 + q, none⟩ = some (.int .i64 P3)) := HX3.out.imp id fun ⟨h, q, hq, e, hz⟩ => ⟨h, q, by omega, e, by rw [← hz]; exact HC5.out q hq⟩
        clear HX1 HX2 HX3 HC5 hcell hi9
        rcases hY1 with rfl | ⟨rfl, q1, hq1, rfl, hx1⟩ <;> rcases hY2 with rfl | ⟨rfl, q2, hq2, rfl, hx2⟩ <;> rcases hY3 with rfl | ⟨rfl, q3, hq3, rfl, hx3⟩
        all_goals
          go_wp2
          go_ret
          exact ⟨rfl, HF.out⟩
      · have hY1 : B1 = false := by
          rcases HX1.out with h | ⟨_, q, hq, _⟩
          · exact h
          · omega
        have hY2 : B2 = false := by
          rcases HX2.out with h | ⟨_, q, hq, _⟩
          · exact h
          · omega
        have hY3 : B3 = false := by
          rcases HX3.out with h | ⟨_, q, hq, _⟩
          · exact h
          · omega
        subst hY1 hY2 hY3
        clear HX1 HX2 HX3 hi9
        go_wp2
        go_ret
        exact ⟨rfl, HF.out⟩

end Go.Proofs.Ytdiifnakmemadaa
