/-
  What Set of the document does: the pair with the key put where it belongs, in new rows. Conditions: the pair lies where it is said to lie, its keys rise, fewer than 999.
-/
import Derived.Test.YtahdeliopmkpmaaRCancel
namespace Go.Proofs.Ytahdeliopmkpmaa
open Go.ChangeShapes Go.WideShapes Go.ChangeAt Go.RowKit Go.Maps

/-- A block of two slices holds no int. -/
theorem IntsAt.far {w w' : World} {g : Nat} {a p q : Option Addr} {len cap n1 n2 n3 n4 : Nat} {zs : List Int} {t : TypeId} {f : Nat × Nat} (h : IntsAt w a len cap zs) (hg : w.heap[g]? = some (.cells #[.slice p n1 n2, .slice q n3 n4] t f)) (hk : Keep (fun k => k ≠ g) w w') : IntsAt w' a len cap zs := by
  refine ⟨h.hlen, h.hle, h.hcap, fun j hj => ?_⟩
  obtain ⟨b, off, e, hlt, hc⟩ := h.at_ j hj
  have hne : b ≠ g := by
    rintro rfl
    have h1 : w.cell? ⟨b, off + j, none⟩ = #[Value.slice p n1 n2, Value.slice q n3 n4][off + j]? := by simp [World.cell?, hg]
    rw [hc] at h1
    rcases Nat.lt_or_ge (off + j) 2 with h2 | h2
    · rcases (by omega : off + j = 0 ∨ off + j = 1) with h3 | h3 <;> rw [h3] at h1 <;> simp at h1
    · rw [Array.getElem?_eq_none (by simpa using h2)] at h1
      simp at h1
  exact ⟨b, off, e, Nat.lt_of_lt_of_le hlt hk.size, hk.cell hc hne⟩

theorem ins_keep {R : List (Int × Int)} {k a x y : Int} {i : Nat} {d : Bool} (hi : i < R.length) (h : InsD R k i d) (hx : nthR R i = (x, y)) (hb : (!d && decide (k < x)) = false) : insB R k a (i + 1) d = insB R k a i d ++ [(x, y)] ∧ InsD R k (i + 1) d := by
  cases d with
  | true => rw [← hx]; exact ins_done hi h
  | false =>
    have := ins_pass (a := a) hi h (by rw [hx]; simpa using hb)
    rw [hx] at this
    exact this

set_option maxHeartbeats 8000000 in
set_option maxRecDepth 100000 in
theorem rset_any (w : World) (kv av : Value) (R : List (Int × Int)) (h : WvAt w kv av R) (hr : Ris R) (hl : R.length ≤ 998) (k a : Int) :
    Calls Try.prog 13 #[.agg #[kv, av], .int .i64 k, .int .i64 a] w fun e w' => ∃ kv' av', e = .returned (.tuple #[.agg #[kv', av'], .bool (hasR R k)]) ∧ WvAt w' kv' av' (setR R k (cut a)) ∧ (∀ j, kv'.ownBlock = some j ∨ av'.ownBlock = some j → w.heap.size ≤ j ∧ j < w'.heap.size) ∧ Below w.heap.size w w' := by
  have HSH : Hid (∃ p0 s0 p1 s1, kv = .slice p0 R.length s0 ∧ av = .slice p1 R.length s1) := by
    obtain ⟨⟨p0, s0, e0, _⟩, ⟨p1, s1, e1, _⟩⟩ := h
    exact ⟨p0, s0, p1, s1, e0, e1⟩
  have hb : Below w.heap.size w ((w.alloc (.cells #[kv, av] 28)).alloc (.cells #[.slice none 0 0, .slice none 0 0] 28)) := ((Below.refl _ w).alloc (Nat.le_refl _) _).alloc (by simp) _
  have hv := h.below hb
  have hp := rcancel_any _ _ _ _ hv hr (by omega) k
  have h2 : ((w.alloc (.cells #[kv, av] 28)).alloc (.cells #[.slice none 0 0, .slice none 0 0] 28)).heap[w.heap.size]? = some (.cells #[kv, av] 28 (0, 0)) := by
    rw [Below.heap_alloc _ _ _ (by simp)]; exact heap_alloc_new w _
  have h4 : ((w.alloc (.cells #[kv, av] 28)).alloc (.cells #[.slice none 0 0, .slice none 0 0] 28)).heap[w.heap.size + 1]? = some (.cells #[.slice none 0 0, .slice none 0 0] 28 (0, 0)) := by
    have := heap_alloc_new (w.alloc (.cells #[kv, av] 28)) (.cells #[.slice none 0 0, .slice none 0 0] 28)
    simpa using this
  have hsz : ((w.alloc (.cells #[kv, av] 28)).alloc (.cells #[.slice none 0 0, .slice none 0 0] 28)).heap.size = w.heap.size + 2 := by simp
  have HN : Hid (setR R k (cut a) = insR (delR R k) k (cut a)) := rfl
  have hlen := delR_length R k
  go_enter Try.func13, Try.ntmps13
  go_wp2_with fail
  refine hp.mono ?_
  rintro e w1 ⟨kv1, av1, rfl, hv1, _, hb1⟩
  rw [hsz] at hb1
  have g2 := (hb1.block w.heap.size (by omega)).trans h2
  have g4 := (hb1.block (w.heap.size + 1) (by omega)).trans h4
  have hsz1 := hb1.size
  rw [hsz] at hsz1
  have HB : Hid (Below w.heap.size w w1) := hb.trans (hb1.mono (by omega))
  clear hp hb1 hb h2 h4 hv hsz h
  generalize hhad : hasR R k = had at *
  have HHAD : Hid (hasR R k = had) := hhad
  clear hhad
  obtain ⟨⟨a1, c1, rfl, hk1⟩, ⟨a2, c2, rfl, ha1⟩⟩ := hv1
  generalize delR R k = R1 at *
  have l1 := hk1.hle
  have l2 := ha1.hle
  have m1 := hk1.hcap
  have m2 := ha1.hcap
  unfold maxLen at m1 m2
  have q2 := (Below.heap_alloc w1 (.cells #[.slice a1 R1.length c1, .slice a2 R1.length c2] 28) w.heap.size (by omega)).trans g2
  have q4 := (Below.heap_alloc w1 (.cells #[.slice a1 R1.length c1, .slice a2 R1.length c2] 28) (w.heap.size + 1) (by omega)).trans g4
  have q8 := heap_alloc_new w1 (.cells #[.slice a1 R1.length c1, .slice a2 R1.length c2] 28)
  have k8 : Keep (fun _ => True) w1 (w1.alloc (.cells #[.slice a1 R1.length c1, .slice a2 R1.length c2] 28)) := (Keep.refl _ _).alloc _
  have hs8 : (w1.alloc (.cells #[.slice a1 R1.length c1, .slice a2 R1.length c2] 28)).heap.size = w1.heap.size + 1 := by simp
  go_upto_region 2 with fail
  generalize w1.alloc (.cells #[.slice a1 R1.length c1, .slice a2 R1.length c2] 28) = w8 at *
  generalize hb8 : w1.heap.size = b8 at *
  have c80 := blk_c0 q8
  have c81 := blk_c1 q8
  have c20 := blk_c0 q2
  have c21 := blk_c1 q2
  have f20 : w8.frozen? ⟨w.heap.size, 0, none⟩ = false := by simp [World.frozen?, q2]
  have f21 : w8.frozen? ⟨w.heap.size, 1, none⟩ = false := by simp [World.frozen?, q2]
  have y2 := heap_set1 (u := .slice a2 R1.length c2) (heap_set0 (u := .slice a1 R1.length c1) q2)
  have k9 : Keep (fun k => k ≠ w.heap.size) w8 ((w8.setCell ⟨w.heap.size, 0, none⟩ (.slice a1 R1.length c1)).setCell ⟨w.heap.size, 1, none⟩ (.slice a2 R1.length c2)) := ((Keep.refl _ _).setCell (fun hn => hn rfl) _).setCell (fun hn => hn rfl) _
  go_upto_region 3 with fail
  generalize (w8.setCell ⟨w.heap.size, 0, none⟩ (.slice a1 R1.length c1)).setCell ⟨w.heap.size, 1, none⟩ (.slice a2 R1.length c2) = w9 at *
  obtain ⟨p0, s0, p1, s1, e0, e1⟩ := HSH.out
  rw [e0, e1] at q2
  have HV : Hid (IntsAt w9 a1 R1.length c1 (fs R1) ∧ IntsAt w9 a2 R1.length c2 (sn R1)) := ⟨(hk1.keep k8 (fun _ _ => trivial)).far q2 k9, (ha1.keep k8 (fun _ _ => trivial)).far q2 k9⟩
  have HG2 : Hid (w9.heap[w.heap.size]? = some (.cells #[.slice a1 R1.length c1, .slice a2 R1.length c2] 28 (0, 0))) := y2
  have HG4 : Hid (w9.heap[w.heap.size + 1]? = some (.cells #[.slice none 0 0, .slice none 0 0] 28 (0, 0))) := (k9.block _ (by omega) (by omega)).trans q4
  have hs9 := k9.size
  have HB9 : Hid (Below w.heap.size w w9) := (HB.out.trans (k8.below (by omega) (fun _ _ => trivial))).trans (k9.below (by omega) (fun k hk => by omega))
  clear hk1 ha1 k8 k9 q2 q4 q8 y2 c80 c81 c20 c21 f20 f21 g2 g4 HB e0 e1
  have hout := OutAt.new w9
  go_upto_region 4 with fail
  generalize hb10 : w9.heap.size = b10 at *
  have HS : Hid (w9.heap.size = b10) := hb10
  have hk0 : Keep (fun k => k < b10) w9 (w9.alloc (.cells #[.slice none 0 0, .slice none 0 0] 28)) := (Keep.refl _ _).alloc _
  generalize w9.alloc (.cells #[.slice none 0 0, .slice none 0 0] 28) = w10 at *
  have hw7 : w.heap.size < b10 := by omega
  have hw8 : w.heap.size + 1 < b10 := by omega
  clear hb10 hb8 hs8 hs9
  go_wp2
  go_loopw [11, 12] (fun vd vi wr => ∃ (i : Nat) (d : Bool) (kv' av' : Value), vd = .bool d ∧ vi = .int .i64 i ∧ i ≤ R1.length ∧ InsD R1 k i d ∧ OutAt wr b10 kv' av' (fs (insB R1 k (cut a) i d)) (sn (insB R1 k (cut a) i d)) ∧ Keep (fun k => k < b10) w9 wr) (fun _ vi _ => R1.length - (intOf vi).toNat)
  case atStart =>
    obtain ⟨z1, z2⟩ := ins_zero R1 k (cut a)
    exact ⟨0, false, _, _, rfl, rfl, Nat.zero_le _, z2, by rw [z1]; exact hout, hk0⟩
  case round =>
    obtain ⟨i, d, kv', av', rfl, rfl, hi1, hd, ho, hkr⟩ := hrel
    have c20 : wr.cell? ⟨w.heap.size, 0, none⟩ = some (.slice a1 R1.length c1) := hkr.cell (blk_c0 HG2.out) hw7
    by_cases hc : i < R1.length
    · obtain ⟨b1, o1', rfl, hlt1, e1⟩ := HV.out.1.at_ i hc
      obtain ⟨b2, o2', rfl, hlt2, e2⟩ := HV.out.2.at_ i hc
      rw [HS.out] at hlt1 hlt2
      rw [fs_getD] at e1
      rw [sn_getD] at e2
      have HE1 : Hid (w9.cell? ⟨b1, o1' + i, none⟩ = some (.int .i64 (nthR R1 i).1)) := e1
      have HE2 : Hid (w9.cell? ⟨b2, o2' + i, none⟩ = some (.int .i64 (nthR R1 i).2)) := e2
      have e1 := hkr.cell e1 hlt1
      clear e2
      have hTl := insB_length R1 k (cut a) i d
      have HST : Hid (InsD R1 k i d) := hd
      have HO : Hid (OutAt wr b10 kv' av' (fs (insB R1 k (cut a) i d)) (sn (insB R1 k (cut a) i d))) := ho
      have HKR : Hid (Keep (fun k => k < b10) w9 wr) := hkr
      clear ho hkr hd
      generalize hxy : nthR R1 i = xy at *
      obtain ⟨x, y⟩ := xy
      dsimp only at e1 HE1 HE2
      have HX : Hid (nthR R1 i = (x, y)) := hxy
      clear hxy
      go_upto_region 8 with fail
      go_cut [37] from 20 to 70 (fun s w4 => s = .bool (!d && decide (k < x)) ∧ w4 = wr)
      case first =>
        cases d with
        | true =>
          go_wp2_with fail
          go_meet
          exact ⟨rfl, rfl⟩
        | false =>
          go_wp2_with fail
          go_meet
          exact ⟨by simp, rfl⟩
      case rest =>
        obtain ⟨rfl, hw4⟩ := hcut
        obtain rfl : wr = wc := hw4.symm
        go_upto_if 37 with fail
        go_cut [11] from 20 to 70 (fun vd w4 => ∃ (d2 : Bool) (kv2 av2 : Value) (T : List (Int × Int)), vd = .bool d2 ∧ OutAt w4 b10 kv2 av2 (fs T) (sn T) ∧ T.length ≤ i + 1 ∧ insB R1 k (cut a) (i + 1) d2 = T ++ [(x, y)] ∧ InsD R1 k (i + 1) d2 ∧ Keep (fun k => k < b10) w9 w4)
        case first =>
          cases hbb : (!d && decide (k < x)) with
          | false =>
            have HW : Hid (insB R1 k (cut a) (i + 1) d = insB R1 k (cut a) i d ++ [(x, y)] ∧ InsD R1 k (i + 1) d) := ins_keep hc HST.out HX.out hbb
            go_wp2_with fail
            go_meet
            exact ⟨d, kv', av', insB R1 k (cut a) i d, rfl, HO.out, hTl, HW.out.1, HW.out.2, HKR.out⟩
          | true =>
            have hdk : d = false ∧ k < x := by simpa using hbb
            obtain ⟨rfl, hkx⟩ := hdk
            have HW : Hid (insB R1 k (cut a) (i + 1) true = insB R1 k (cut a) i false ++ [(k, cut a)] ++ [(x, y)] ∧ InsD R1 k (i + 1) true) := by
              have := ins_put (a := cut a) hc HST.out (by rw [HX.out]; exact hkx)
              rw [HX.out] at this
              exact this
            have hTl2 : (insB R1 k (cut a) i false).length ≤ i := by simp [insB]; omega
            generalize insB R1 k (cut a) i false = T at *
            have hfl := fs_length T
            have hsl := sn_length T
            have o1 := HO.out.own1
            rw [hfl] at o1
            have d0 := HO.out.c0
            have f0 := HO.out.fz 0
            have hbl := HO.out.lt
            clear hkx hbb HST
            go_wp2_with (at_builtin; refine wpList_int rfl _ _ rfl (b10 + 1) kv' T.length (fs T) k rfl wr o1 rfl ((Keep.refl _ wr).alloc _) (heap_alloc_new _ _) (by omega) (by omega) ?_; intro gg cp w3 hown3 hgrow hat; have hmid := HO.out.midK ((Keep.refl _ wr).alloc _) hgrow; have d3 := hmid.1; have f3 := hmid.2)
            obtain ⟨q1, q2⟩ := HO.out.pushK hfl ((Keep.refl _ wr).alloc _) hgrow hown3 hat
            generalize w3.setCell ⟨b10, 0, none⟩ (.slice (some ⟨gg, 0, none⟩) (T.length + 1) cp) = w4 at *
            have HO4 : Hid (OutAt w4 b10 (.slice (some ⟨gg, 0, none⟩) (T.length + 1) cp) av' (fs T ++ [k]) (sn T)) := q1
            have HK4 : Hid (Keep (fun k => k < b10) w9 w4) := HKR.out.trans q2
            have o2 := q1.own2
            rw [hsl] at o2
            have g0 := q1.c1
            have g1 := q1.fz 1
            have hbl4 := q1.lt
            clear q1 q2 hmid d3 f3 hgrow hown3 hat o1 d0 f0 e1 c20 hbl
            go_region_law (first
              | ((refine step_int rfl _ _ rfl (b10 + 1) av' T.length (sn T) (cut a) rfl w4 o2 rfl ((Keep.refl _ w4).alloc _).drew (heap_alloc_new _ _) (by omega) (by omega) ?_; intro gg cp w3 hown3 hgrow hat; have hmid := HO4.out.midA ((Keep.refl _ w4).alloc _).drew hgrow; have d3 := hmid.1; have f3 := hmid.2))
              | ((go_simp; go_at_call 26; refine (rcut_any _ _).mono ?_; rintro e w' ⟨rfl, hw'⟩; obtain rfl := hw')))
            all_goals (
              go_wp2
              go_meet
              obtain ⟨q1, q2⟩ := HO4.out.pushA hsl ((Keep.refl _ w4).alloc _).drew hgrow hown3 hat
              rw [show fs T ++ [k] = fs (T ++ [(k, cut a)]) by rw [fs_append]; rfl, show sn T ++ [cut a] = sn (T ++ [(k, cut a)]) by rw [sn_append]; rfl] at q1
              exact ⟨true, _, _, T ++ [(k, cut a)], rfl, q1, by simp; omega, HW.out.1, HW.out.2, HK4.out.trans q2⟩)
        case rest =>
          obtain ⟨d2, kv2, av2, T, rfl, ho, hTl2, hT, hD2, hkr⟩ := hcut
          have HT : Hid (insB R1 k (cut a) (i + 1) d2 = T ++ [(x, y)] ∧ InsD R1 k (i + 1) d2) := ⟨hT, hD2⟩
          have hfl := fs_length T
          have hsl := sn_length T
          have HO5 : Hid (OutAt wc b10 kv2 av2 (fs T) (sn T)) := ho
          have HK5 : Hid (Keep (fun k => k < b10) w9 wc) := hkr
          have o1 := ho.own1
          rw [hfl] at o1
          have d0 := ho.c0
          have f0 := ho.fz 0
          have hbl := ho.lt
          have e11 := hkr.cell HE1.out hlt1
          have c22 : wc.cell? ⟨w.heap.size, 0, none⟩ = some (.slice (some ⟨b1, o1', none⟩) R1.length c1) := hkr.cell (blk_c0 HG2.out) hw7
          clear ho hkr hT hD2 e1 c20 HO HKR HST hTl
          go_upto_region 12 with fail
          go_cut [51] from 20 to 70 (fun _ w4 => ∃ kv3, OutAt w4 b10 kv3 av2 (fs T ++ [x]) (sn T) ∧ Keep (fun k => k < b10) w9 w4)
          case first =>
            go_region_law ((refine step_int rfl _ _ rfl (b10 + 1) kv2 T.length (fs T) x rfl wc o1 rfl ((Keep.refl _ wc).alloc _).drew (heap_alloc_new _ _) (by omega) (by omega) ?_; intro gg cp w3 hown3 hgrow hat; have hmid := HO5.out.midK ((Keep.refl _ wc).alloc _).drew hgrow; have d3 := hmid.1; have f3 := hmid.2))
            all_goals (
              go_wp2
              go_meet
              obtain ⟨q1, q2⟩ := HO5.out.pushK hfl ((Keep.refl _ wc).alloc _).drew hgrow hown3 hat
              exact ⟨_, q1, HK5.out.trans q2⟩)
          case rest =>
            clear o1 d0 f0 hbl e11 c22 HO5 HK5
            obtain ⟨kv3, ho3, hk3⟩ := hcut
            have e22 := hk3.cell HE2.out hlt2
            have c21 : wc.cell? ⟨w.heap.size, 1, none⟩ = some (.slice (some ⟨b2, o2', none⟩) R1.length c2) := hk3.cell (blk_c1 HG2.out) hw7
            have o2 := ho3.own2
            rw [hsl] at o2
            have d1 := ho3.c1
            have f1 := ho3.fz 1
            have hbl2 := ho3.lt
            have HO2 : Hid (OutAt wc b10 kv3 av2 (fs T ++ [x]) (sn T)) := ho3
            have HK2 : Hid (Keep (fun k => k < b10) w9 wc) := hk3
            clear ho3 hk3
            go_wp2_with fail
            go_region_law ((refine step_int rfl _ _ rfl (b10 + 1) av2 T.length (sn T) y rfl wc o2 rfl ((Keep.refl _ wc).alloc _).drew (heap_alloc_new _ _) (by omega) (by omega) ?_; intro gg cp w3 hown3 hgrow hat; have hmid := HO2.out.midA ((Keep.refl _ wc).alloc _).drew hgrow; have d3 := hmid.1; have f3 := hmid.2))
            all_goals (
              go_wp2
              obtain ⟨q1, q2⟩ := HO2.out.pushA hsl ((Keep.refl _ wc).alloc _).drew hgrow hown3 hat
              rw [show fs T ++ [x] = fs (insB R1 k (cut a) (i + 1) d2) by rw [HT.out.1, fs_append]; rfl, show sn T ++ [y] = sn (insB R1 k (cut a) (i + 1) d2) by rw [HT.out.1, sn_append]; rfl] at q1
              exact ⟨⟨i + 1, d2, _, _, rfl, by simp, by omega, HT.out.2, q1, HK2.out.trans q2⟩, by simp [intOf]; omega⟩)
    · obtain rfl : i = R1.length := by omega
      have HST : Hid (InsD R1 k R1.length d) := hd
      have hTl := insB_length R1 k (cut a) R1.length d
      have HO : Hid (OutAt wr b10 kv' av' (fs (insB R1 k (cut a) R1.length d)) (sn (insB R1 k (cut a) R1.length d))) := ho
      have HKR : Hid (Keep (fun k => k < b10) w9 wr) := hkr
      clear ho hkr hd hc hi1
      go_upto_if 72 with fail
      go_cut [73] from 71 to 85 (fun _ w4 => ∃ kv3 av3, OutAt w4 b10 kv3 av3 (fs (insR R1 k (cut a))) (sn (insR R1 k (cut a))) ∧ Keep (fun k => k < b10) w9 w4)
      case first =>
        cases d with
        | true =>
          have HE := ins_end' R1 k (cut a)
          rw [HE] at HO
          clear HE hTl HST
          go_wp2_with fail
          go_meet
          exact ⟨_, _, HO.out, HKR.out⟩
        | false =>
          have HE : Hid (insR R1 k (cut a) = insB R1 k (cut a) R1.length false ++ [(k, cut a)]) := ins_end HST.out
          have hTl2 : (insB R1 k (cut a) R1.length false).length ≤ R1.length := by simp [insB]
          generalize insB R1 k (cut a) R1.length false = T at *
          have hfl := fs_length T
          have hsl := sn_length T
          have o1 := HO.out.own1
          rw [hfl] at o1
          have d0 := HO.out.c0
          have f0 := HO.out.fz 0
          have hbl := HO.out.lt
          clear HST
          go_wp2_with (at_builtin; refine wpList_int rfl _ _ rfl (b10 + 1) kv' T.length (fs T) k rfl wr o1 rfl ((Keep.refl _ wr).alloc _) (heap_alloc_new _ _) (by omega) (by omega) ?_; intro gg cp w3 hown3 hgrow hat; have hmid := HO.out.midK ((Keep.refl _ wr).alloc _) hgrow; have d3 := hmid.1; have f3 := hmid.2)
          obtain ⟨q1, q2⟩ := HO.out.pushK hfl ((Keep.refl _ wr).alloc _) hgrow hown3 hat
          generalize w3.setCell ⟨b10, 0, none⟩ (.slice (some ⟨gg, 0, none⟩) (T.length + 1) cp) = w4 at *
          have HO4 : Hid (OutAt w4 b10 (.slice (some ⟨gg, 0, none⟩) (T.length + 1) cp) av' (fs T ++ [k]) (sn T)) := q1
          have HK4 : Hid (Keep (fun k => k < b10) w9 w4) := HKR.out.trans q2
          have o2 := q1.own2
          rw [hsl] at o2
          have g0 := q1.c1
          have g1 := q1.fz 1
          have hbl4 := q1.lt
          clear q1 q2 hmid d3 f3 hgrow hown3 hat o1 d0 f0 c20 hbl
          go_region_law (first
            | ((refine step_int rfl _ _ rfl (b10 + 1) av' T.length (sn T) (cut a) rfl w4 o2 rfl ((Keep.refl _ w4).alloc _).drew (heap_alloc_new _ _) (by omega) (by omega) ?_; intro gg cp w3 hown3 hgrow hat; have hmid := HO4.out.midA ((Keep.refl _ w4).alloc _).drew hgrow; have d3 := hmid.1; have f3 := hmid.2))
            | ((go_simp; go_at_call 26; refine (rcut_any _ _).mono ?_; rintro e w' ⟨rfl, hw'⟩; obtain rfl := hw')))
          all_goals (
            go_wp2
            go_meet
            obtain ⟨q1, q2⟩ := HO4.out.pushA hsl ((Keep.refl _ w4).alloc _).drew hgrow hown3 hat
            rw [show fs T ++ [k] = fs (insR R1 k (cut a)) by rw [HE.out, fs_append]; rfl, show sn T ++ [cut a] = sn (insR R1 k (cut a)) by rw [HE.out, sn_append]; rfl] at q1
            exact ⟨_, _, q1, HK4.out.trans q2⟩)
      case rest =>
        clear HO HKR HST hTl c20
        obtain ⟨kv3, av3, ho, hkr⟩ := hcut
        have HR : Hid (WvAt wc kv3 av3 (insR R1 k (cut a))) := ho.reads
        have HBL : Hid (∀ x, kv3.ownBlock = some x ∨ av3.ownBlock = some x → b10 < x ∧ x < wc.heap.size) := ho.blocks
        have HKR : Hid (Keep (fun k => k < b10) w9 wc) := hkr
        obtain ⟨⟨a3, n3, rfl, _⟩, ⟨a4, n4, rfl, _⟩⟩ := ho.reads
        have d0 := ho.c0
        have d1 := ho.c1
        have g4 : wc.heap[w.heap.size + 1]? = some (.cells #[.slice none 0 0, .slice none 0 0] 28 (0, 0)) := (hkr.block _ (by have := HS.out; omega) hw8).trans HG4.out
        have c40 := blk_c0 g4
        have c41 := blk_c1 g4
        have f40 : wc.frozen? ⟨w.heap.size + 1, 0, none⟩ = false := by simp [World.frozen?, g4]
        have f41 : wc.frozen? ⟨w.heap.size + 1, 1, none⟩ = false := by simp [World.frozen?, g4]
        generalize (insR R1 k (cut a)).length = m at *
        have y0 := heap_set1 (u := .slice a4 m n4) (heap_set0 (u := .slice a3 m n3) g4)
        have z0 := blk_c0 y0
        have z1 := blk_c1 y0
        have HKF : Hid (Keep (fun k => k ≠ w.heap.size + 1) wc ((wc.setCell ⟨w.heap.size + 1, 0, none⟩ (.slice a3 m n3)).setCell ⟨w.heap.size + 1, 1, none⟩ (.slice a4 m n4))) := ((Keep.refl _ wc).setCell (fun hn => hn rfl) _).setCell (fun hn => hn rfl) _
        clear ho hkr y0 g4
        go_wp2
        refine bodyPost_ret (v := .tuple #[.agg #[.slice a3 m n3, .slice a4 m n4], .bool had]) (by simp [results, Try.results13, go_sem, z0, z1]) rfl ?_
        have hs := HS.out
        refine ⟨_, _, by rw [HHAD.out], by rw [HN.out]; exact HR.out.keep HKF.out (fun k e => by have := HBL.out k e; omega), fun k e => ?_, ?_⟩
        · have := HBL.out k e
          have := HKF.out.size
          omega
        · exact HB9.out.trans ((((HKR.out.below (B := w.heap.size) (by omega) (fun k hk => by omega))).trans (HKF.out.below (by have := HKR.out.size; omega) (fun k hk => by omega))))

end Go.Proofs.Ytahdeliopmkpmaa
