/-
  What Due of the document does: the pair without what is due, and the keys that are, in new rows. Conditions: the pair lies where it is said to lie, fewer than 1000.
-/
import Derived.Test.YtahdeliopmkpmaaRCancel
namespace Go.Proofs.Ytahdeliopmkpmaa
open Go.ChangeShapes Go.WideShapes Go.ChangeAt Go.RowKit Go.Maps

/-- A row grows beside the pair. -/
theorem OutAt.other {w wa w3 : World} {b : Nat} {kv av v : Value} {ks vs : List Int} (h : OutAt w b kv av ks vs) (hk : Keep (fun _ => True) w wa) (hgr : wa.grownBy w3 v.ownBlock) (hv : ∀ k, v.ownBlock = some k → b < k ∧ kv.ownBlock ≠ some k ∧ av.ownBlock ≠ some k) : OutAt w3 b kv av ks vs ∧ Keep (fun k => k < b) w w3 := by
  have h1 : OutAt wa b kv av ks vs := h.keep hk (fun _ _ => trivial)
  have k1 : Keep (fun k => v.ownBlock ≠ some k) wa w3 := keep_grown hgr (fun k e hn => hn e)
  refine ⟨⟨?_, owns_keep h1.own1 k1 (fun k e e2 => (hv k e2).2.1 e), owns_keep h1.own2 k1 (fun k e e2 => (hv k e2).2.2 e), h1.apart⟩, ?_⟩
  · rw [k1.block b h1.lt (fun e => by have := (hv b e).1; omega)]; exact h1.blk
  · exact (hk.mono fun _ _ _ => trivial).trans (k1.mono fun k _ hk e => by have := (hv k e).1; omega)

/-- The row v is neither of the pair's. -/
def Aside (b : Nat) (kv av v : Value) : Prop := ∀ k, v.ownBlock = some k → b < k ∧ kv.ownBlock ≠ some k ∧ av.ownBlock ≠ some k

theorem owns_lower {w : World} {base base' n : Nat} {v : Value} {xs : List Value} (h : w.ownsRow base 3 1 v n xs) (hb : base' ≤ base) : w.ownsRow base' 3 1 v n xs := by
  refine ⟨h.1, ?_⟩
  rcases h.2 with hn | ⟨g, cap, cur, e, h1, r⟩
  · exact .inl hn
  · exact .inr ⟨g, cap, cur, e, Nat.le_trans hb h1, r⟩
theorem Aside.grewK {w wa w3 : World} {b n gg : Nat} {kv av v : Value} {xs : List Value} (h : Aside b kv av v) (hv : w.ownsRow (b + 1) 3 1 v n xs) (hk : Keep (fun _ => True) w wa) (hgr : wa.grownBy w3 kv.ownBlock) (hat : kv.ownBlock = some gg ∨ gg = wa.heap.size) (kv' : Value) (hkv : kv'.ownBlock = some gg) :
    Aside b kv' av v ∧ (w3.setCell ⟨b, 0, none⟩ kv').ownsRow (b + 1) 3 1 v n xs := by
  have k1 : Keep (fun k => kv.ownBlock ≠ some k) wa w3 := keep_grown hgr (fun k e hn => hn e)
  have h1 := owns_keep (owns_keep hv hk (fun _ _ => trivial)) k1 (fun k e e2 => (h k e).2.1 e2)
  have ks3 : Keep (fun k => k ≠ b) w3 (w3.setCell ⟨b, 0, none⟩ kv') := (Keep.refl _ w3).setCell (fun hn => hn rfl) _
  refine ⟨fun k e => ⟨(h k e).1, fun e2 => ?_, (h k e).2.2⟩, owns_keep h1 ks3 (fun k e => by have := (h k e).1; omega)⟩
  rw [hkv] at e2
  cases e2
  rcases hat with h2 | h2
  · exact (h _ e).2.1 h2
  · have := (hv.lt _ e).2
    have := hk.size
    omega
theorem Aside.grewA {w wa w3 : World} {b n gg : Nat} {kv av v : Value} {xs : List Value} (h : Aside b kv av v) (hv : w.ownsRow (b + 1) 3 1 v n xs) (hk : Keep (fun _ => True) w wa) (hgr : wa.grownBy w3 av.ownBlock) (hat : av.ownBlock = some gg ∨ gg = wa.heap.size) (av' : Value) (hkv : av'.ownBlock = some gg) :
    Aside b kv av' v ∧ (w3.setCell ⟨b, 1, none⟩ av').ownsRow (b + 1) 3 1 v n xs := by
  have k1 : Keep (fun k => av.ownBlock ≠ some k) wa w3 := keep_grown hgr (fun k e hn => hn e)
  have h1 := owns_keep (owns_keep hv hk (fun _ _ => trivial)) k1 (fun k e e2 => (h k e).2.2 e2)
  have ks3 : Keep (fun k => k ≠ b) w3 (w3.setCell ⟨b, 1, none⟩ av') := (Keep.refl _ w3).setCell (fun hn => hn rfl) _
  refine ⟨fun k e => ⟨(h k e).1, (h k e).2.1, fun e2 => ?_⟩, owns_keep h1 ks3 (fun k e => by have := (h k e).1; omega)⟩
  rw [hkv] at e2
  cases e2
  rcases hat with h2 | h2
  · exact (h _ e).2.2 h2
  · have := (hv.lt _ e).2
    have := hk.size
    omega

set_option maxHeartbeats 8000000 in
set_option maxRecDepth 100000 in
theorem rdue_any (w : World) (kv av : Value) (R : List (Int × Int)) (h : WvAt w kv av R) (hl : R.length ≤ 999) (now : Int) :
    Calls Try.prog 17 #[.agg #[kv, av], .int .i64 now] w fun e w' => ∃ kv' av' v, e = .returned (.tuple #[.agg #[kv', av'], v]) ∧ WvAt w' kv' av' (restR R now) ∧ (∀ j, kv'.ownBlock = some j ∨ av'.ownBlock = some j → w.heap.size ≤ j ∧ j < w'.heap.size) ∧ w'.ownsRow w.heap.size 3 1 v (dueR R now).length (ic ((dueR R now).map (fun x => x.1))) ∧ Below w.heap.size w w' := by
  have hb : Below w.heap.size w ((w.alloc (.cells #[kv, av] 28)).alloc (.cells #[.slice none 0 0, .slice none 0 0] 28)) := ((Below.refl _ w).alloc (Nat.le_refl _) _).alloc (by simp) _
  have hv := h.below hb
  have h2 : ((w.alloc (.cells #[kv, av] 28)).alloc (.cells #[.slice none 0 0, .slice none 0 0] 28)).heap[w.heap.size]? = some (.cells #[kv, av] 28 (0, 0)) := by
    rw [Below.heap_alloc _ _ _ (by simp)]; exact heap_alloc_new w _
  have h4 : ((w.alloc (.cells #[kv, av] 28)).alloc (.cells #[.slice none 0 0, .slice none 0 0] 28)).heap[w.heap.size + 1]? = some (.cells #[.slice none 0 0, .slice none 0 0] 28 (0, 0)) := by
    have := heap_alloc_new (w.alloc (.cells #[kv, av] 28)) (.cells #[.slice none 0 0, .slice none 0 0] 28)
    simpa using this
  have hsz : ((w.alloc (.cells #[kv, av] 28)).alloc (.cells #[.slice none 0 0, .slice none 0 0] 28)).heap.size = w.heap.size + 2 := by simp
  obtain ⟨⟨a1, c1, rfl, hk1⟩, ⟨a2, c2, rfl, ha1⟩⟩ := hv
  have l1 := hk1.hle
  have l2 := ha1.hle
  have m1 := hk1.hcap
  have m2 := ha1.hcap
  unfold maxLen at m1 m2
  clear h
  go_enter Try.func17, Try.ntmps17
  go_upto_region 1 with fail
  generalize (w.alloc (.cells #[.slice a1 R.length c1, .slice a2 R.length c2] 28)).alloc (.cells #[.slice none 0 0, .slice none 0 0] 28) = w9 at *
  have HV : Hid (IntsAt w9 a1 R.length c1 (fs R) ∧ IntsAt w9 a2 R.length c2 (sn R)) := ⟨hk1, ha1⟩
  have HG2 : Hid (w9.heap[w.heap.size]? = some (.cells #[.slice a1 R.length c1, .slice a2 R.length c2] 28 (0, 0))) := h2
  have HG4 : Hid (w9.heap[w.heap.size + 1]? = some (.cells #[.slice none 0 0, .slice none 0 0] 28 (0, 0))) := h4
  have HB9 : Hid (Below w.heap.size w w9) := hb
  clear hk1 ha1 h2 h4 hb
  have hout := OutAt.new w9
  go_upto_region 2 with fail
  rw [hsz] at hout
  generalize hb10 : w.heap.size + 2 = b10 at *
  have HS : Hid (w9.heap.size = b10) := hsz
  have hk0 : Keep (fun k => k < b10) w9 (w9.alloc (.cells #[.slice none 0 0, .slice none 0 0] 28)) := (Keep.refl _ _).alloc _
  generalize w9.alloc (.cells #[.slice none 0 0, .slice none 0 0] 28) = w10 at *
  have hw7 : w.heap.size < b10 := by omega
  have hw8 : w.heap.size + 1 < b10 := by omega
  clear hb10 hsz
  go_wp2
  go_loopw [7, 8] (fun vd vi wr => ∃ (i : Nat) (kv' av' : Value), vi = .int .i64 i ∧ i ≤ R.length ∧ wr.ownsRow (b10 + 1) 3 1 vd (dueR (R.take i) now).length (ic (fs (dueR (R.take i) now))) ∧ Aside b10 kv' av' vd ∧ OutAt wr b10 kv' av' (fs (restR (R.take i) now)) (sn (restR (R.take i) now)) ∧ Keep (fun k => k < b10) w9 wr) (fun _ vi _ => R.length - (intOf vi).toNat)
  case atStart => exact ⟨0, _, _, rfl, Nat.zero_le _, World.ownsRow_nil _ _ _ _, fun k e => by simp [Value.ownBlock] at e, by simpa [restR, fs, sn] using hout, hk0⟩
  case round =>
    obtain ⟨i, kv', av', rfl, hi1, hown, has, ho, hkr⟩ := hrel
    have c20 : wr.cell? ⟨w.heap.size, 0, none⟩ = some (.slice a1 R.length c1) := hkr.cell (blk_c0 HG2.out) hw7
    have c21 : wr.cell? ⟨w.heap.size, 1, none⟩ = some (.slice a2 R.length c2) := hkr.cell (blk_c1 HG2.out) hw7
    by_cases hc : i < R.length
    · obtain ⟨b1, o1', rfl, hlt1, e1⟩ := HV.out.1.at_ i hc
      obtain ⟨b2, o2', rfl, hlt2, e2⟩ := HV.out.2.at_ i hc
      rw [HS.out] at hlt1 hlt2
      rw [fs_getD] at e1
      rw [sn_getD] at e2
      have HE2 : Hid (w9.cell? ⟨b2, o2' + i, none⟩ = some (.int .i64 (nthR R i).2)) := e2
      have e1 := hkr.cell e1 hlt1
      have e2 := hkr.cell e2 hlt2
      have hDl := dueR_length (R.take i) now
      have hRl := restR_length (R.take i) now
      rw [List.length_take] at hDl hRl
      cases hp : past now (nthR R i).2 with
      | true =>
        have HD : Hid (dueR (R.take (i + 1)) now = dueR (R.take i) now ++ [nthR R i] ∧ restR (R.take (i + 1)) now = restR (R.take i) now) := due_hit hc hp
        generalize dueR (R.take i) now = D at *
        generalize restR (R.take i) now = T at *
        generalize hxy : nthR R i = xy at *
        obtain ⟨x, y⟩ := xy
        dsimp only at e1 e2 HE2 hp
        clear hxy
        have hbl := ho.lt
        have HO : Hid (OutAt wr b10 kv' av' (fs T) (sn T)) := ho
        have HKR : Hid (Keep (fun k => k < b10) w9 wr) := hkr
        have HAS : Hid (Aside b10 kv' av' u7) := has
        clear ho hkr has
        go_wp2_with (first
          | (go_at_call 36; refine (rpast_any _ _ _).mono ?_; rintro e w' ⟨rfl, hw'⟩; obtain rfl : wr = w' := hw'.symm)
          | (at_builtin; refine wpList_int rfl _ _ rfl (b10 + 1) u7 D.length (fs D) x rfl wr hown rfl ((Keep.refl _ wr).alloc _) (heap_alloc_new _ _) (by omega) (by omega) ?_; intro gg cp w3 hown3 hgrow hat))
        obtain ⟨q1, q2⟩ := HO.out.other ((Keep.refl _ wr).alloc _) hgrow HAS.out
        have q3 : w3.ownsRow (b10 + 1) 3 1 (.slice (some ⟨gg, 0, none⟩) (D.length + 1) cp) (dueR (R.take (i + 1)) now).length (ic (fs (dueR (R.take (i + 1)) now))) := by
          rw [HD.out.1, fs_append, List.length_append]
          have : ic (fs D ++ fs [(x, y)]) = ic (fs D) ++ [.int .i64 x] := by simp [ic, fs]
          rw [this]
          exact hown3
        rw [← HD.out.2] at q1
        refine ⟨⟨i + 1, kv', av', by simp, by omega, q3, fun k e => ?_, q1, HKR.out.trans q2⟩, by simp [intOf]; omega⟩
        have e3 : gg = k := by simpa [Value.ownBlock] using e
        subst e3
        rcases hat with h1 | h1
        · exact HAS.out _ h1
        · have hs : (wr.alloc (.cells #[.int .i64 x] 3)).heap.size = wr.heap.size + 1 := by simp
          rw [hs] at h1
          refine ⟨by omega, fun e4 => ?_, fun e4 => ?_⟩
          · have := (HO.out.blocks _ (.inl e4)).2; omega
          · have := (HO.out.blocks _ (.inr e4)).2; omega
      | false =>
        have HD : Hid (dueR (R.take (i + 1)) now = dueR (R.take i) now ∧ restR (R.take (i + 1)) now = restR (R.take i) now ++ [nthR R i]) := due_miss hc hp
        generalize dueR (R.take i) now = D at *
        generalize restR (R.take i) now = T at *
        generalize hxy : nthR R i = xy at *
        obtain ⟨x, y⟩ := xy
        dsimp only at e1 e2 HE2 hp
        clear hxy
        have hfl := fs_length T
        have hsl := sn_length T
        have o1 := ho.own1
        rw [hfl] at o1
        have d0 := ho.c0
        have f0 := ho.fz 0
        have hbl := ho.lt
        have HO : Hid (OutAt wr b10 kv' av' (fs T) (sn T)) := ho
        have HKR : Hid (Keep (fun k => k < b10) w9 wr) := hkr
        have HAS : Hid (Aside b10 kv' av' u7) := has
        have HOW : Hid (wr.ownsRow (b10 + 1) 3 1 u7 D.length (ic (fs D))) := hown
        clear ho hkr has hown
        go_wp2_with (first
          | (go_at_call 36; refine (rpast_any _ _ _).mono ?_; rintro e w' ⟨rfl, hw'⟩; obtain rfl : wr = w' := hw'.symm))
        go_cut [33] from 10 to 52 (fun _ w4 => ∃ kv3, OutAt w4 b10 kv3 av' (fs T ++ [x]) (sn T) ∧ Aside b10 kv3 av' u7 ∧ w4.ownsRow (b10 + 1) 3 1 u7 D.length (ic (fs D)) ∧ Keep (fun k => k < b10) w9 w4)
        case first =>
          go_region_law ((refine step_int rfl _ _ rfl (b10 + 1) kv' T.length (fs T) x rfl wr o1 rfl ((Keep.refl _ wr).alloc _).drew (heap_alloc_new _ _) (by omega) (by omega) ?_; intro gg cp w3 hown3 hgrow hat; have hmid := HO.out.midK ((Keep.refl _ wr).alloc _).drew hgrow; have d3 := hmid.1; have f3 := hmid.2))
          all_goals (
            go_wp2
            go_meet
            obtain ⟨q1, q2⟩ := HO.out.pushK hfl ((Keep.refl _ wr).alloc _).drew hgrow hown3 hat
            obtain ⟨q3, q4⟩ := HAS.out.grewK HOW.out ((Keep.refl _ wr).alloc _).drew hgrow hat (.slice (some ⟨gg, 0, none⟩) (T.length + 1) cp) rfl
            exact ⟨_, q1, q3, q4, HKR.out.trans q2⟩)
        case rest =>
          obtain ⟨kv3, ho3, has3, how3, hk3⟩ := hcut
          have e22 := hk3.cell HE2.out hlt2
          have c212 : wc.cell? ⟨w.heap.size, 1, none⟩ = some (.slice (some ⟨b2, o2', none⟩) R.length c2) := hk3.cell (blk_c1 HG2.out) hw7
          have o2 := ho3.own2
          rw [hsl] at o2
          have d1 := ho3.c1
          have f1 := ho3.fz 1
          have hbl2 := ho3.lt
          have HO2 : Hid (OutAt wc b10 kv3 av' (fs T ++ [x]) (sn T)) := ho3
          have HAS2 : Hid (Aside b10 kv3 av' u7) := has3
          have HOW2 : Hid (wc.ownsRow (b10 + 1) 3 1 u7 D.length (ic (fs D))) := how3
          have HK2 : Hid (Keep (fun k => k < b10) w9 wc) := hk3
          clear ho3 hk3 has3 how3 HO HKR HAS HOW o1 d0 f0 hbl e1 e2 c20 c21
          go_wp2_with fail
          go_region_law ((refine step_int rfl _ _ rfl (b10 + 1) av' T.length (sn T) y rfl wc o2 rfl ((Keep.refl _ wc).alloc _).drew (heap_alloc_new _ _) (by omega) (by omega) ?_; intro gg cp w3 hown3 hgrow hat; have hmid := HO2.out.midA ((Keep.refl _ wc).alloc _).drew hgrow; have d3 := hmid.1; have f3 := hmid.2))
          all_goals (
            go_wp2
            obtain ⟨q1, q2⟩ := HO2.out.pushA hsl ((Keep.refl _ wc).alloc _).drew hgrow hown3 hat
            obtain ⟨q3, q4⟩ := HAS2.out.grewA HOW2.out ((Keep.refl _ wc).alloc _).drew hgrow hat (.slice (some ⟨gg, 0, none⟩) (T.length + 1) cp) rfl
            rw [show fs T ++ [x] = fs (restR (R.take (i + 1)) now) by rw [HD.out.2, fs_append]; rfl, show sn T ++ [y] = sn (restR (R.take (i + 1)) now) by rw [HD.out.2, sn_append]; rfl] at q1
            rw [← HD.out.1] at q4
            exact ⟨⟨i + 1, _, _, by simp, by omega, q4, q3, q1, HK2.out.trans q2⟩, by simp [intOf]; omega⟩)
    · obtain rfl : i = R.length := by omega
      rw [List.take_length] at ho hown
      have HR : Hid (WvAt wr kv' av' (restR R now)) := ho.reads
      have HBL : Hid (∀ x, kv'.ownBlock = some x ∨ av'.ownBlock = some x → b10 < x ∧ x < wr.heap.size) := ho.blocks
      have HKR : Hid (Keep (fun k => k < b10) w9 wr) := hkr
      have HOW : Hid (wr.ownsRow (b10 + 1) 3 1 u7 (dueR R now).length (ic (fs (dueR R now)))) := hown
      obtain ⟨⟨a3, n3, rfl, _⟩, ⟨a4, n4, rfl, _⟩⟩ := ho.reads
      have d0 := ho.c0
      have d1 := ho.c1
      have g4 : wr.heap[w.heap.size + 1]? = some (.cells #[.slice none 0 0, .slice none 0 0] 28 (0, 0)) := (hkr.block _ (by have := HS.out; omega) hw8).trans HG4.out
      have c40 := blk_c0 g4
      have c41 := blk_c1 g4
      have f40 : wr.frozen? ⟨w.heap.size + 1, 0, none⟩ = false := by simp [World.frozen?, g4]
      have f41 : wr.frozen? ⟨w.heap.size + 1, 1, none⟩ = false := by simp [World.frozen?, g4]
      generalize (restR R now).length = m at *
      have y0 := heap_set1 (u := .slice a4 m n4) (heap_set0 (u := .slice a3 m n3) g4)
      have z0 := blk_c0 y0
      have z1 := blk_c1 y0
      have HKF : Hid (Keep (fun k => k ≠ w.heap.size + 1) wr ((wr.setCell ⟨w.heap.size + 1, 0, none⟩ (.slice a3 m n3)).setCell ⟨w.heap.size + 1, 1, none⟩ (.slice a4 m n4))) := ((Keep.refl _ wr).setCell (fun hn => hn rfl) _).setCell (fun hn => hn rfl) _
      clear ho hkr hc y0 g4 hown has
      go_wp2
      refine bodyPost_ret (v := .tuple #[.agg #[.slice a3 m n3, .slice a4 m n4], u7]) (by simp [results, Try.results17, go_sem, z0, z1]) rfl ?_
      have hs := HS.out
      refine ⟨_, _, _, rfl, HR.out.keep HKF.out (fun k e => by have := HBL.out k e; omega), fun k e => ?_, ?_, ?_⟩
      · have := HBL.out k e
        have := HKF.out.size
        omega
      · exact owns_lower (owns_keep HOW.out HKF.out (fun k e => by have := (HOW.out.lt k e).1; omega)) (by omega)
      · exact HB9.out.trans ((((HKR.out.below (B := w.heap.size) (by omega) (fun k hk => by omega))).trans (HKF.out.below (by have := HKR.out.size; omega) (fun k hk => by omega))))

end Go.Proofs.Ytahdeliopmkpmaa
