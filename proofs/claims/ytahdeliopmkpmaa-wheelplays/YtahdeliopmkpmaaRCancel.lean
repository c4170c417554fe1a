/-
  What Cancel of the document does: the pair without the key, in new rows. Conditions: the pair lies where it is said to lie, its keys rise, fewer than 1000.
-/
import Derived.Test.YtahdeliopmkpmaaRef
import Derived.Deep.RegionLaw
import Derived.Deep.CutRange
namespace Go.Proofs.Ytahdeliopmkpmaa
open Go.ChangeShapes Go.WideShapes Go.ChangeAt Go.RowKit Go.Maps

/-- The blocks of the pair are the elder pair's, or new. -/
def From (w w' : World) (kv av kv' av' : Value) : Prop := ∀ k, kv'.ownBlock = some k ∨ av'.ownBlock = some k → (kv.ownBlock = some k ∨ av.ownBlock = some k) ∨ (w.heap.size ≤ k ∧ k < w'.heap.size)

/-- An int is appended, in a plain region. -/
theorem wpList_int {ops : Array Oper} {rest : List Oper} {o : Oper} {a : Act} {w : World} {Q : Exit → Act → World → Prop} (hgd : o.guard = none) (s x : Operand)
    (ho : o.op = .call { callee := .builtin .append, args := #[s, x], argTypes := #[26, 26] }) (base : Nat) (v : Value) (n : Nat) (zs : List Int) (z : Int) (hs : a.eval s = v) (w0 : World) (hown : w0.ownsRow base 3 1 v n (ic zs))
    (hx : a.eval x = .slice (some ⟨w0.heap.size, 0, none⟩) 1 1) (hk : Keep (fun _ => True) w0 w) (hblk : w.heap[w0.heap.size]? = some (.cells #[.int .i64 z] 3 (0, 0))) (hn : n ≤ 1000) (hb : base ≤ w0.heap.size)
    (h : ∀ g cap w', w'.ownsRow base 3 1 (.slice (some ⟨g, 0, none⟩) (n + 1) cap) (n + 1) (ic zs ++ [.int .i64 z]) → w.grownBy w' v.ownBlock → (v.ownBlock = some g ∨ g = w.heap.size) → wpList Try.prog ops Q rest (a.put o.dst (.slice (some ⟨g, 0, none⟩) (n + 1) cap)) w') :
    wpList Try.prog ops Q (o :: rest) a w := by
  obtain ⟨ti, hi, hz0, hz1, hz2⟩ := info_parts info3
  have hsz := hk.size
  exact wpList_append_lies w hgd s x 26 ho base 3 ti (.int .i64 0) 1 8 Try.underlying26 hi hz0 hz1 hz2 rfl (by decide) v n (ic zs) hs (owns_keep hown hk (fun _ _ => trivial)) ⟨w0.heap.size, 0, none⟩ 1 1 [.int .i64 z] hx rfl (World.news_of_block hblk) (by simp [Value.oneCell']) (by decide) (by unfold maxLen; omega) (by omega) (by omega) _ rfl (fun g cap w' q1 q2 q3 _ => h g cap w' q1 q2 q3)

set_option maxHeartbeats 2000000 in
set_option maxRecDepth 100000 in
theorem rcancel_miss (w : World) (kv av : Value) (R : List (Int × Int)) (h : WvAt w kv av R) (hl : R.length ≤ 999) (k : Int) (hh : hasR R k = false) :
    Calls Try.prog 15 #[.agg #[kv, av], .int .i64 k] w fun e w' => e = .returned (.tuple #[.agg #[kv, av], .bool false]) ∧ WvAt w' kv av R ∧ Below w.heap.size w w' := by
  have hb : Below w.heap.size w ((w.alloc (.cells #[kv, av] 28)).alloc (.cells #[.slice none 0 0, .slice none 0 0] 28)) := ((Below.refl _ w).alloc (Nat.le_refl _) _).alloc (by simp) _
  have hv := h.below hb
  have hp := place_miss _ _ _ _ hv hl k hh
  have h2 : ((w.alloc (.cells #[kv, av] 28)).alloc (.cells #[.slice none 0 0, .slice none 0 0] 28)).heap[w.heap.size]? = some (.cells #[kv, av] 28 (0, 0)) := by
    rw [Below.heap_alloc _ _ _ (by simp)]; exact heap_alloc_new w _
  have h4 : ((w.alloc (.cells #[kv, av] 28)).alloc (.cells #[.slice none 0 0, .slice none 0 0] 28)).heap[w.heap.size + 1]? = some (.cells #[.slice none 0 0, .slice none 0 0] 28 (0, 0)) := by
    have := heap_alloc_new (w.alloc (.cells #[kv, av] 28)) (.cells #[.slice none 0 0, .slice none 0 0] 28)
    simpa using this
  have hsz : ((w.alloc (.cells #[kv, av] 28)).alloc (.cells #[.slice none 0 0, .slice none 0 0] 28)).heap.size = w.heap.size + 2 := by simp
  go_enter Try.func15, Try.ntmps15
  go_wp2_with fail
  refine hp.mono ?_
  rintro e w1 ⟨rfl, hb1⟩
  rw [hsz] at hb1
  have g2 := (hb1.block w.heap.size (by omega)).trans h2
  have g4 := (hb1.block (w.heap.size + 1) (by omega)).trans h4
  have c20 := blk_c0 g2
  have c21 := blk_c1 g2
  have c40 := blk_c0 g4
  have c41 := blk_c1 g4
  have f40 : w1.frozen? ⟨w.heap.size + 1, 0, none⟩ = false := by simp [World.frozen?, g4]
  have f41 : w1.frozen? ⟨w.heap.size + 1, 1, none⟩ = false := by simp [World.frozen?, g4]
  have hv1 := hv.below (by rw [hsz]; exact hb1)
  have HB : Hid (Below w.heap.size w w1) := hb.trans (hb1.mono (by omega))
  clear hp hb1 hb h2 h4 hv hsz
  obtain ⟨⟨a1, c1, rfl, _⟩, ⟨a2, c2, rfl, _⟩⟩ := hv1
  have y0 : ((w1.setCell ⟨w.heap.size + 1, 0, none⟩ (.slice a1 R.length c1)).setCell ⟨w.heap.size + 1, 1, none⟩ (.slice a2 R.length c2)).heap[w.heap.size + 1]? = some (.cells #[.slice a1 R.length c1, .slice a2 R.length c2] 28 (0, 0)) := heap_set1 (heap_set0 g4)
  have z0 := blk_c0 y0
  have z1 := blk_c1 y0
  clear y0 g2 g4
  have hbb := (HB.out.setCell (p := ⟨w.heap.size + 1, 0, none⟩) (by simp) (.slice a1 R.length c1)).setCell (p := ⟨w.heap.size + 1, 1, none⟩) (by simp) (.slice a2 R.length c2)
  have HF : Hid (WvAt ((w1.setCell ⟨w.heap.size + 1, 0, none⟩ (.slice a1 R.length c1)).setCell ⟨w.heap.size + 1, 1, none⟩ (.slice a2 R.length c2)) (.slice a1 R.length c1) (.slice a2 R.length c2) R ∧ Below w.heap.size w ((w1.setCell ⟨w.heap.size + 1, 0, none⟩ (.slice a1 R.length c1)).setCell ⟨w.heap.size + 1, 1, none⟩ (.slice a2 R.length c2))) := ⟨h.below hbb, hbb⟩
  clear h hbb
  go_wp2
  refine bodyPost_ret (v := .tuple #[.agg #[.slice a1 R.length c1, .slice a2 R.length c2], .bool false]) (by simp [results, Try.results15, go_sem, z0, z1]) rfl ?_
  exact ⟨rfl, HF.out⟩

set_option maxHeartbeats 4000000 in
set_option maxRecDepth 100000 in
theorem rcancel_hit (w : World) (kv av : Value) (R : List (Int × Int)) (h : WvAt w kv av R) (hr : Ris R) (hl : R.length ≤ 999) (i0 : Nat) (hi0 : i0 < R.length) :
    Calls Try.prog 15 #[.agg #[kv, av], .int .i64 (nthR R i0).1] w fun e w' => ∃ kv' av', e = .returned (.tuple #[.agg #[kv', av'], .bool true]) ∧ WvAt w' kv' av' (delR R (nthR R i0).1) ∧ From w w' kv av kv' av' ∧ Below w.heap.size w w' := by
  obtain ⟨ti, hi, hz0, hz1, hz2⟩ := info_parts info3
  have hb : Below w.heap.size w ((w.alloc (.cells #[kv, av] 28)).alloc (.cells #[.slice none 0 0, .slice none 0 0] 28)) := ((Below.refl _ w).alloc (Nat.le_refl _) _).alloc (by simp) _
  have hv := h.below hb
  have hp := place_hit _ _ _ _ hv hr hl i0 hi0
  have h2 : ((w.alloc (.cells #[kv, av] 28)).alloc (.cells #[.slice none 0 0, .slice none 0 0] 28)).heap[w.heap.size]? = some (.cells #[kv, av] 28 (0, 0)) := by
    rw [Below.heap_alloc _ _ _ (by simp)]; exact heap_alloc_new w _
  have h4 : ((w.alloc (.cells #[kv, av] 28)).alloc (.cells #[.slice none 0 0, .slice none 0 0] 28)).heap[w.heap.size + 1]? = some (.cells #[.slice none 0 0, .slice none 0 0] 28 (0, 0)) := by
    have := heap_alloc_new (w.alloc (.cells #[kv, av] 28)) (.cells #[.slice none 0 0, .slice none 0 0] 28)
    simpa using this
  have hsz : ((w.alloc (.cells #[kv, av] 28)).alloc (.cells #[.slice none 0 0, .slice none 0 0] 28)).heap.size = w.heap.size + 2 := by simp
  have HN : Hid (∀ j, j < R.length → j ≠ i0 → (nthR R j).1 ≠ (nthR R i0).1) := fun j hj hne e => hne (ris_one hr hj hi0 e)
  have HK : Hid ((nthR R i0).1 = (nthR R i0).1) := rfl
  generalize hk : (nthR R i0).1 = k at *
  have HKK : Hid ((nthR R i0).1 = k) := hk
  clear hk HK hr
  go_enter Try.func15, Try.ntmps15
  go_wp2_with fail
  refine hp.mono ?_
  rintro e w1 ⟨rfl, hb1⟩
  rw [hsz] at hb1
  have g2 := (hb1.block w.heap.size (by omega)).trans h2
  have g4 := (hb1.block (w.heap.size + 1) (by omega)).trans h4
  have hv1 := hv.below (by rw [hsz]; exact hb1)
  have hsz1 := hb1.size
  rw [hsz] at hsz1
  have HB : Hid (Below w.heap.size w w1) := hb.trans (hb1.mono (by omega))
  clear hp hb1 hb h2 h4 hv hsz h
  obtain ⟨⟨a1, c1, rfl, hk1⟩, ⟨a2, c2, rfl, ha1⟩⟩ := hv1
  have HV : Hid (IntsAt w1 a1 R.length c1 (fs R) ∧ IntsAt w1 a2 R.length c2 (sn R)) := ⟨hk1, ha1⟩
  have l1 := hk1.hle
  have l2 := ha1.hle
  have m1 := hk1.hcap
  have m2 := ha1.hcap
  unfold maxLen at m1 m2
  clear hk1 ha1
  have hout := OutAt.new w1
  have HG2 : Hid (w1.heap[w.heap.size]? = some (.cells #[.slice a1 R.length c1, .slice a2 R.length c2] 28 (0, 0))) := g2
  have HG4 : Hid (w1.heap[w.heap.size + 1]? = some (.cells #[.slice none 0 0, .slice none 0 0] 28 (0, 0))) := g4
  clear g2 g4
  go_wp2
  generalize hb7 : w1.heap.size = b7 at *
  have HS : Hid (w1.heap.size = b7) := hb7
  have hk0 : Keep (fun k => k < b7) w1 (w1.alloc (.cells #[.slice none 0 0, .slice none 0 0] 28)) := (Keep.refl _ _).alloc _
  generalize w1.alloc (.cells #[.slice none 0 0, .slice none 0 0] 28) = w2 at *
  clear hb7
  go_loopw [8] (fun vi wr => ∃ (i : Nat) (kv' av' : Value), vi = .int .i64 i ∧ i ≤ R.length ∧ OutAt wr b7 kv' av' (fs (delR (R.take i) k)) (sn (delR (R.take i) k)) ∧ Keep (fun k => k < b7) w1 wr) (fun vi _ => R.length - (intOf vi).toNat)
  case atStart => exact ⟨0, _, _, rfl, Nat.zero_le _, by simpa [delR, fs, sn] using hout, hk0⟩
  case round =>
    obtain ⟨i, kv', av', rfl, hi1, ho, hkr⟩ := hrel
    have c20 : wr.cell? ⟨w.heap.size, 0, none⟩ = some (.slice a1 R.length c1) := hkr.cell (blk_c0 HG2.out) (by show w.heap.size < b7; omega)
    have c21 : wr.cell? ⟨w.heap.size, 1, none⟩ = some (.slice a2 R.length c2) := hkr.cell (blk_c1 HG2.out) (by show w.heap.size < b7; omega)
    by_cases hc : i < R.length
    · by_cases hii : i = i0
      · subst hii
        have HD := del_hit hc HKK.out
        go_wp2
        exact ⟨⟨i + 1, kv', av', by simp, by omega, by rw [HD]; exact ho, hkr⟩, by simp [intOf]; omega⟩
      · have HD : Hid (delR (R.take (i + 1)) k = delR (R.take i) k ++ [nthR R i]) := del_miss hc (HN.out i hc hii)
        have hneb : ((i : Int) != (i0 : Int)) = true := by simp; omega
        obtain ⟨b1, o1', rfl, hlt1, e1⟩ := HV.out.1.at_ i hc
        obtain ⟨b2, o2', rfl, hlt2, e2⟩ := HV.out.2.at_ i hc
        rw [HS.out] at hlt1 hlt2
        rw [fs_getD] at e1
        rw [sn_getD] at e2
        have HE2 : Hid (w1.cell? ⟨b2, o2' + i, none⟩ = some (.int .i64 (nthR R i).2)) := e2
        have e1 := hkr.cell e1 hlt1
        clear e2
        have hDl := delR_length (R.take i) k
        rw [List.length_take] at hDl
        generalize delR (R.take i) k = D at *
        generalize hxy : nthR R i = xy at *
        obtain ⟨x, y⟩ := xy
        dsimp only at e1 HE2
        have hfl := fs_length D
        have hsl := sn_length D
        have HO : Hid (OutAt wr b7 kv' av' (fs D) (sn D)) := ho
        have HKR : Hid (Keep (fun k => k < b7) w1 wr) := hkr
        have o1 := ho.own1
        have d0 := ho.c0
        have f0 := ho.fz 0
        have hbl := ho.lt
        rw [hfl] at o1
        have hw7 : w.heap.size < b7 := by omega
        clear ho hkr
        go_wp2_with fail
        go_cut [25] from 15 to 44 (fun _ w4 => ∃ kv2, OutAt w4 b7 kv2 av' (fs D ++ [x]) (sn D) ∧ Keep (fun k => k < b7) w1 w4)
        case first =>
          go_region_law ((refine step_int rfl _ _ rfl (b7 + 1) kv' D.length (fs D) x rfl wr o1 rfl ((Keep.refl _ wr).alloc _).drew (heap_alloc_new _ _) (by omega) (by omega) ?_; intro gg cp w3 hown3 hgrow hat; have hmid := HO.out.midK ((Keep.refl _ wr).alloc _).drew hgrow; have d3 := hmid.1; have f3 := hmid.2))
          all_goals (
            go_wp2
            go_meet
            obtain ⟨q1, q2⟩ := HO.out.pushK hfl ((Keep.refl _ wr).alloc _).drew hgrow hown3 hat
            exact ⟨_, q1, HKR.out.trans q2⟩)
        case rest =>
          obtain ⟨kv2, ho2, hk2⟩ := hcut
          have e22 := hk2.cell HE2.out hlt2
          have c21 : wc.cell? ⟨w.heap.size, 1, none⟩ = some (.slice (some ⟨b2, o2', none⟩) R.length c2) := hk2.cell (blk_c1 HG2.out) hw7
          have o2 := ho2.own2
          rw [hsl] at o2
          have d1 := ho2.c1
          have f1 := ho2.fz 1
          have hbl2 := ho2.lt
          have HO2 : Hid (OutAt wc b7 kv2 av' (fs D ++ [x]) (sn D)) := ho2
          have HK2 : Hid (Keep (fun k => k < b7) w1 wc) := hk2
          clear ho2 hk2 e1 d0 f0 o1
          go_wp2_with fail
          go_region_law ((refine step_int rfl _ _ rfl (b7 + 1) av' D.length (sn D) y rfl wc o2 rfl ((Keep.refl _ wc).alloc _).drew (heap_alloc_new _ _) (by omega) (by omega) ?_; intro gg cp w3 hown3 hgrow hat; have hmid := HO2.out.midA ((Keep.refl _ wc).alloc _).drew hgrow; have d3 := hmid.1; have f3 := hmid.2))
          all_goals (
            go_wp2
            obtain ⟨q1, q2⟩ := HO2.out.pushA hsl ((Keep.refl _ wc).alloc _).drew hgrow hown3 hat
            have q3 := q1
            rw [show fs D ++ [x] = fs (delR (R.take (i + 1)) k) by rw [HD.out, fs_append]; rfl, show sn D ++ [y] = sn (delR (R.take (i + 1)) k) by rw [HD.out, sn_append]; rfl] at q3
            exact ⟨⟨i + 1, _, _, by simp, by omega, q3, HK2.out.trans q2⟩, by simp [intOf]; omega⟩)
    · obtain rfl : i = R.length := by omega
      rw [List.take_length] at ho
      have HO : Hid (OutAt wr b7 kv' av' (fs (delR R k)) (sn (delR R k))) := ho
      have HR : Hid (WvAt wr kv' av' (delR R k)) := ho.reads
      have HBL : Hid (∀ x, kv'.ownBlock = some x ∨ av'.ownBlock = some x → b7 < x ∧ x < wr.heap.size) := ho.blocks
      have HKR : Hid (Keep (fun k => k < b7) w1 wr) := hkr
      obtain ⟨⟨a3, n3, rfl, _⟩, ⟨a4, n4, rfl, _⟩⟩ := ho.reads
      have d0 := ho.c0
      have d1 := ho.c1
      have g4 : wr.heap[w.heap.size + 1]? = some (.cells #[.slice none 0 0, .slice none 0 0] 28 (0, 0)) := (hkr.block _ (by have := HS.out; omega) (by show w.heap.size + 1 < b7; omega)).trans HG4.out
      have c40 := blk_c0 g4
      have c41 := blk_c1 g4
      have f40 : wr.frozen? ⟨w.heap.size + 1, 0, none⟩ = false := by simp [World.frozen?, g4]
      have f41 : wr.frozen? ⟨w.heap.size + 1, 1, none⟩ = false := by simp [World.frozen?, g4]
      generalize (delR R k).length = m at *
      have y0 := heap_set1 (u := .slice a4 m n4) (heap_set0 (u := .slice a3 m n3) g4)
      have z0 := blk_c0 y0
      have z1 := blk_c1 y0
      have HKF : Hid (Keep (fun k => k ≠ w.heap.size + 1) wr ((wr.setCell ⟨w.heap.size + 1, 0, none⟩ (.slice a3 m n3)).setCell ⟨w.heap.size + 1, 1, none⟩ (.slice a4 m n4))) := ((Keep.refl _ wr).setCell (fun hn => hn rfl) _).setCell (fun hn => hn rfl) _
      clear ho hkr hc y0 g4
      go_wp2
      refine bodyPost_ret (v := .tuple #[.agg #[.slice a3 m n3, .slice a4 m n4], .bool true]) (by simp [results, Try.results15, go_sem, z0, z1]) rfl ?_
      have hs := HS.out
      refine ⟨_, _, rfl, HR.out.keep HKF.out (fun k e => by have := HBL.out k e; omega), fun k e => .inr ?_, ?_⟩
      · have := HBL.out k e
        have := HKF.out.size
        omega
      · exact HB.out.trans ((((HKR.out.below (B := w.heap.size) (by omega) (fun k hk => by omega))).trans (HKF.out.below (by have := HKR.out.size; omega) (fun k hk => by omega))))

theorem rcancel_any (w : World) (kv av : Value) (R : List (Int × Int)) (h : WvAt w kv av R) (hr : Ris R) (hl : R.length ≤ 999) (k : Int) :
    Calls Try.prog 15 #[.agg #[kv, av], .int .i64 k] w fun e w' => ∃ kv' av', e = .returned (.tuple #[.agg #[kv', av'], .bool (hasR R k)]) ∧ WvAt w' kv' av' (delR R k) ∧ From w w' kv av kv' av' ∧ Below w.heap.size w w' := by
  cases hh : hasR R k with
  | false =>
    refine (rcancel_miss w kv av R h hl k hh).mono ?_
    rintro e w' ⟨rfl, h1, h2⟩
    exact ⟨kv, av, rfl, by rw [delR_none hh]; exact h1, fun k e => .inl e, h2⟩
  | true =>
    obtain ⟨i, hi, hk⟩ := hasR_nth hh
    rw [← hk]
    exact rcancel_hit w kv av R h hr hl i hi

end Go.Proofs.Ytahdeliopmkpmaa
