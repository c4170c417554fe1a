/-
  What Remove of the document does: the pair without the id, in new rows. Conditions: the pair lies where it is said to lie, at most 100 wait.
-/
import Derived.Test.YtcndgcfdopjjfaaRef
namespace Go.Proofs.Ytcndgcfdopjjfaa
open Go.ChangeShapes Go.WideShapes Go.ChangeAt Go.RowKit

/-- The blocks of the pair are the elder pair's, or new. -/
def From (w w' : World) (kv av kv' av' : Value) : Prop := ∀ k, kv'.ownBlock = some k ∨ av'.ownBlock = some k → (kv.ownBlock = some k ∨ av.ownBlock = some k) ∨ (w.heap.size ≤ k ∧ k < w'.heap.size)

/-- The blocks of the pair are new. -/
def Fresh (w w' : World) (kv' av' : Value) : Prop := ∀ k, kv'.ownBlock = some k ∨ av'.ownBlock = some k → w.heap.size ≤ k ∧ k < w'.heap.size

theorem without_lt (x : Int) : ∀ L : List Wt, (without [x] L).length < L.length ↔ x ∈ fs L
  | [] => by simp [without, fs]
  | p :: L => by
    have ih := without_lt x L
    have hle := without_len [x] L
    unfold without fs at *
    by_cases h : p.1 = x
    · simp [h] at *
      omega
    · have h2 : ¬ x = p.1 := fun e => h e.symm
      simp [h, h2] at *

set_option maxHeartbeats 4000000 in
set_option maxRecDepth 100000 in
theorem rremove_any (w : World) (S : Int) (kv av : Value) (L : List Wt) (x : Int) (h : QvAt w kv av L) (hl : L.length ≤ 100) :
    Calls Try.prog 17 #[.agg #[.int .i64 S, kv, av], .int .i64 x] w fun e w' => ∃ kv' av', e = .returned (.tuple #[.agg #[.int .i64 S, kv', av'], .bool (decide (x ∈ fs L))]) ∧ QvAt w' kv' av' (without [x] L) ∧ Fresh w w' kv' av' ∧ Below w.heap.size w w' := by
  have hb : Below w.heap.size w ((w.alloc (.cells #[.int .i64 S, kv, av] 28)).alloc (.cells #[.int .i64 0, .slice none 0 0, .slice none 0 0] 28)) := ((Below.refl _ w).alloc (Nat.le_refl _) _).alloc (by simp) _
  have hv := h.below hb
  have g2 : ((w.alloc (.cells #[.int .i64 S, kv, av] 28)).alloc (.cells #[.int .i64 0, .slice none 0 0, .slice none 0 0] 28)).heap[w.heap.size]? = some (.cells #[.int .i64 S, kv, av] 28 (0, 0)) := by
    rw [Below.heap_alloc _ _ _ (by simp)]; exact heap_alloc_new w _
  have g4 : ((w.alloc (.cells #[.int .i64 S, kv, av] 28)).alloc (.cells #[.int .i64 0, .slice none 0 0, .slice none 0 0] 28)).heap[w.heap.size + 1]? = some (.cells #[.int .i64 0, .slice none 0 0, .slice none 0 0] 28 (0, 0)) := by
    have := heap_alloc_new (w.alloc (.cells #[.int .i64 S, kv, av] 28)) (.cells #[.int .i64 0, .slice none 0 0, .slice none 0 0] 28)
    simpa using this
  have hsz : ((w.alloc (.cells #[.int .i64 S, kv, av] 28)).alloc (.cells #[.int .i64 0, .slice none 0 0, .slice none 0 0] 28)).heap.size = w.heap.size + 2 := by simp
  have HLT : Hid (decide ((without [x] L).length < L.length) = decide (x ∈ fs L)) := by
    show _ = _
    rw [decide_eq_decide]
    exact without_lt x L
  obtain ⟨z0, z1, z2, _⟩ := blk3 g2
  clear h
  go_enter Try.func17, Try.ntmps17
  go_wp2
  generalize hw1 : (w.alloc (.cells #[.int .i64 S, kv, av] 28)).alloc (.cells #[.int .i64 0, .slice none 0 0, .slice none 0 0] 28) = w1 at *
  clear hw1
  have HB : Hid (Below w.heap.size w w1) := hb
  obtain ⟨⟨a1, c1, rfl, hk1, _⟩, ⟨a2, c2, rfl, ha1, _⟩⟩ := hv
  have HV : Hid (IntsAt w1 a1 L.length c1 (fs L) ∧ IntsAt w1 a2 L.length c2 (sn L)) := ⟨hk1, ha1⟩
  have l1 := hk1.hle
  have l2 := ha1.hle
  have m1 := hk1.hcap
  have m2 := ha1.hcap
  unfold maxLen at m1 m2
  have hout := OutAt.new w1 S
  have HG2 : Hid (w1.heap[w.heap.size]? = some (.cells #[.int .i64 S, .slice a1 L.length c1, .slice a2 L.length c2] 28 (0, 0))) := g2
  have HG4 : Hid (w1.heap[w.heap.size + 1]? = some (.cells #[.int .i64 0, .slice none 0 0, .slice none 0 0] 28 (0, 0))) := g4
  clear hk1 ha1 g2 g4 hb z0 z1 z2
  rw [hsz] at hout
  generalize hb6 : w.heap.size + 2 = b6 at *
  have hk0 : Keep (fun k => k < b6) w1 (w1.alloc (.cells #[.int .i64 S, .slice none 0 0, .slice none 0 0] 28)) := (Keep.refl _ _).alloc _
  generalize w1.alloc (.cells #[.int .i64 S, .slice none 0 0, .slice none 0 0] 28) = w2 at *
  have hw6 : w.heap.size < b6 := by omega
  have hw7 : w.heap.size + 1 < b6 := by omega
  have HS : Hid (w1.heap.size = b6 ∧ w.heap.size + 2 = b6) := ⟨hsz, hb6⟩
  clear hb6 hsz
  go_loopw [7] (fun vi wr => ∃ (i : Nat) (kv' av' : Value), vi = .int .i64 i ∧ i ≤ L.length ∧ OutAt wr b6 S kv' av' (fs (without [x] (L.take i))) (sn (without [x] (L.take i))) ∧ Keep (fun k => k < b6) w1 wr) (fun vi _ => L.length - (intOf vi).toNat)
  case atStart => exact ⟨0, _, _, rfl, Nat.zero_le _, by simpa [without, fs, sn] using hout, hk0⟩
  case round =>
    clear hout hk0
    obtain ⟨i, kv', av', rfl, hi1, ho, hkr⟩ := hrel
    obtain ⟨c20, c21, c22, _⟩ := blk3 ((hkr.block _ (lt_of_heap HG2.out) hw6).trans HG2.out)
    by_cases hc : i < L.length
    · obtain ⟨b1, o1', rfl, hlt1, e1⟩ := HV.out.1.at_ i hc
      obtain ⟨b2, o2', rfl, hlt2, e2⟩ := HV.out.2.at_ i hc
      rw [HS.out.1] at hlt1 hlt2
      rw [fs_getD] at e1
      rw [sn_getD] at e2
      have HE2 : Hid (w1.cell? ⟨b2, o2' + i, none⟩ = some (.int .i64 (nthW L i).2)) := e2
      have e1 := hkr.cell e1 hlt1
      clear e2
      have hsn := without_snoc [x] (L.take i) (nthW L i)
      rw [← take_snoc hc] at hsn
      have hDl := without_len [x] (L.take i)
      rw [List.length_take] at hDl
      generalize without [x] (L.take i) = D at *
      generalize hxy : nthW L i = xy at *
      obtain ⟨p, y⟩ := xy
      dsimp only at e1 HE2 hsn
      by_cases hpx : p = x
      · rw [if_pos (by simp [hpx]), List.append_nil] at hsn
        have HD : Hid (without [x] (L.take (i + 1)) = D) := hsn
        have HO : Hid (OutAt wr b6 S kv' av' (fs D) (sn D)) := ho
        have HKR : Hid (Keep (fun k => k < b6) w1 wr) := hkr
        rw [hpx] at e1
        clear hsn ho hkr
        go_wp2
        exact ⟨⟨i + 1, kv', av', by simp, by omega, by rw [HD.out]; exact HO.out, HKR.out⟩, by simp [intOf]; omega⟩
      · rw [if_neg (by simp [hpx])] at hsn
        have HD : Hid (without [x] (L.take (i + 1)) = D ++ [(p, y)]) := hsn
        have hneb : (p != x) = true := by rw [bne_iff_ne]; exact hpx
        have hfl := fs_length D
        have hsl := sn_length D
        have HO : Hid (OutAt wr b6 S kv' av' (fs D) (sn D)) := ho
        have HKR : Hid (Keep (fun k => k < b6) w1 wr) := hkr
        have o1 := ho.own1
        rw [hfl] at o1
        have d1 := ho.c1
        have hbl := ho.lt
        clear ho hkr hsn
        go_wp2_with fail
        go_cut [33] from 11 to 44 (fun _ w4 => ∃ kv2, OutAt w4 b6 S kv2 av' (fs D ++ [p]) (sn D) ∧ Keep (fun k => k < b6) w1 w4)
        case first =>
          go_region_law ((refine step_int rfl _ _ rfl (b6 + 1) kv' D.length (fs D) p rfl wr o1 rfl ((Keep.refl _ wr).alloc _).drew (heap_alloc_new _ _) (by omega) (by omega) ?_; intro gg cp w3 hown3 hgrow hat; have hmid := HO.out.midK ((Keep.refl _ wr).alloc _).drew hgrow; have d3 := (blk3 hmid).2.1; have f3 := fz3 hmid 1))
          all_goals (
            go_wp2
            go_meet
            obtain ⟨q1, q2⟩ := HO.out.setK ((Keep.refl _ wr).alloc _).drew hgrow (by simp [hfl]) hown3 hat
            exact ⟨_, q1, HKR.out.trans q2⟩)
        case rest =>
          obtain ⟨kv2, ho2, hk2⟩ := hcut
          have e22 := hk2.cell HE2.out hlt2
          obtain ⟨c20, c21, c22, _⟩ := blk3 ((hk2.block _ (lt_of_heap HG2.out) hw6).trans HG2.out)
          have o2 := ho2.own2
          rw [hsl] at o2
          have d2 := ho2.c2
          have hbl2 := ho2.lt
          have HO2 : Hid (OutAt wc b6 S kv2 av' (fs D ++ [p]) (sn D)) := ho2
          have HK2 : Hid (Keep (fun k => k < b6) w1 wc) := hk2
          clear ho2 hk2 e1 d1 o1
          go_wp2_with fail
          go_region_law ((refine step_int rfl _ _ rfl (b6 + 1) av' D.length (sn D) y rfl wc o2 rfl ((Keep.refl _ wc).alloc _).drew (heap_alloc_new _ _) (by omega) (by omega) ?_; intro gg cp w3 hown3 hgrow hat; have hmid := HO2.out.midA ((Keep.refl _ wc).alloc _).drew hgrow; have d3 := (blk3 hmid).2.2.1; have f3 := fz3 hmid 2))
          all_goals (
            go_wp2
            obtain ⟨q1, q2⟩ := HO2.out.setA ((Keep.refl _ wc).alloc _).drew hgrow (by simp [hsl]) hown3 hat
            have q3 := q1
            rw [show fs D ++ [p] = fs (without [x] (L.take (i + 1))) by rw [HD.out, fs_append]; rfl, show sn D ++ [y] = sn (without [x] (L.take (i + 1))) by rw [HD.out, sn_append]; rfl] at q3
            exact ⟨⟨i + 1, _, _, by simp, by omega, q3, HK2.out.trans q2⟩, by simp [intOf]; omega⟩)
    · obtain rfl : i = L.length := by omega
      rw [List.take_length] at ho
      have HR : Hid (QvAt wr kv' av' (without [x] L)) := ho.reads
      have HBL : Hid (∀ k, kv'.ownBlock = some k ∨ av'.ownBlock = some k → b6 < k ∧ k < wr.heap.size) := ho.blocks
      have HKR : Hid (Keep (fun k => k < b6) w1 wr) := hkr
      obtain ⟨⟨a3, n3, rfl, _⟩, ⟨a4, n4, rfl, _⟩⟩ := ho.reads
      obtain ⟨d0, d1, d2, dl⟩ := blk3 ho.blk
      have g4 := (hkr.block _ (lt_of_heap HG4.out) hw7).trans HG4.out
      obtain ⟨c40, c41, c42, _⟩ := blk3 g4
      have f40 := fz3 g4 0
      have f41 := fz3 g4 1
      have f42 := fz3 g4 2
      have hwl := without_len [x] L
      generalize (without [x] L).length = m at *
      obtain ⟨y0, hkf⟩ := res_put g4 (.int .i64 S) (.slice a3 m n3) (.slice a4 m n4)
      have HKF : Hid (Keep (fun k => k ≠ w.heap.size + 1) wr (((wr.setCell ⟨w.heap.size + 1, 0, none⟩ (.int .i64 S)).setCell ⟨w.heap.size + 1, 1, none⟩ (.slice a3 m n3)).setCell ⟨w.heap.size + 1, 2, none⟩ (.slice a4 m n4)).drew) := hkf.drew
      have HY : Hid ((((wr.setCell ⟨w.heap.size + 1, 0, none⟩ (.int .i64 S)).setCell ⟨w.heap.size + 1, 1, none⟩ (.slice a3 m n3)).setCell ⟨w.heap.size + 1, 2, none⟩ (.slice a4 m n4)).drew.heap[w.heap.size + 1]? = some (.cells #[.int .i64 S, .slice a3 m n3, .slice a4 m n4] 28 (0, 0))) := y0
      clear ho hkr hc y0 hkf g4
      go_wp2_with fail
      go_region
      go_wp2
      obtain ⟨z0, z1, z2, _⟩ := blk3 HY.out
      refine bodyPost_ret (v := .tuple #[.agg #[.int .i64 S, .slice a3 m n3, .slice a4 m n4], .bool (decide (m < L.length))]) (by simp [results, Try.results17, go_sem, z0, z1, z2]) rfl ?_
      refine ⟨_, _, by rw [HLT.out], HR.out.keep HKF.out (fun k e => by have := HBL.out k e; omega), fun k e => ?_, ?_⟩
      · have := HBL.out k e
        have := HKF.out.size
        omega
      · have hs := HS.out
        exact HB.out.trans ((((HKR.out.below (B := w.heap.size) (by omega) (fun k hk => by omega))).trans (HKF.out.below (by have := HKR.out.size; omega) (fun k hk => by omega))))

end Go.Proofs.Ytcndgcfdopjjfaa
