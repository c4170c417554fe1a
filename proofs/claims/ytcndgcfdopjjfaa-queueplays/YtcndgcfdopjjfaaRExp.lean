/-
  What Expire of the document does: those that are left, and the ids of the others, in new rows. Conditions: the pair lies where it is said to lie, at most 100 wait.
-/
import Derived.Test.YtcndgcfdopjjfaaRRem
namespace Go.Proofs.Ytcndgcfdopjjfaa
open Go.ChangeShapes Go.WideShapes Go.ChangeAt Go.RowKit

/-- Those that did not come too long ago. -/
def kept (now wait : Int) (L : List Wt) : List Wt := L.filter (fun p => !lateB now wait p)
theorem kept_len (now wait : Int) (L : List Wt) : (kept now wait L).length ≤ L.length := List.length_filter_le _ _
theorem kept_snoc (now wait : Int) (L : List Wt) (p : Wt) : kept now wait (L ++ [p]) = kept now wait L ++ (if lateB now wait p then [] else [p]) := by
  unfold kept
  rw [List.filter_append]
  by_cases h : lateB now wait p = true <;> simp [h]

/-- A queue of the document's with rows that grow, and a third row beside it. -/
structure Out3 (w : World) (b : Nat) (S : Int) (kv av lv : Value) (ks vs es : List Int) : Prop where
  out : OutAt w b S kv av ks vs
  own3 : w.ownsRow (b + 1) 3 1 lv es.length (ic es)
  a1 : ∀ k, lv.ownBlock = some k → kv.ownBlock ≠ some k
  a2 : ∀ k, lv.ownBlock = some k → av.ownBlock ≠ some k

section
variable {w wa w3 : World} {b : Nat} {S : Int} {kv av lv v' : Value} {ks vs es xs : List Int} {n : Nat}

theorem Out3.more (h : Out3 w b S kv av lv ks vs es) (hk : Keep (fun _ => True) w wa) (hgr : wa.grownBy w3 lv.ownBlock) (hn : xs.length = n) (hown : w3.ownsRow (b + 1) 3 1 v' n (ic xs)) (hat : v'.ownBlock = lv.ownBlock ∨ v'.ownBlock = some wa.heap.size) :
    Out3 w3 b S kv av v' ks vs xs ∧ Keep (fun k => k < b) w w3 := by
  subst hn
  have hs := hk.size
  have k1 : Keep (fun k => lv.ownBlock ≠ some k) wa w3 := keep_grown hgr (fun k e hn => hn e)
  have hlo : ∀ k, lv.ownBlock = some k → b < k := fun k e => by have := (h.own3.lt k e).1; omega
  have hb := h.out.lt
  refine ⟨⟨⟨?_, ?_, ?_, h.out.apart⟩, hown, ?_, ?_⟩, ?_⟩
  · rw [k1.block b (by omega) (fun e => by have := hlo b e; omega), hk.block b hb trivial]; exact h.out.blk
  · exact owns_keep (owns_keep h.out.own1 hk (fun _ _ => trivial)) k1 (fun k e e2 => h.a1 k e2 e)
  · exact owns_keep (owns_keep h.out.own2 hk (fun _ _ => trivial)) k1 (fun k e e2 => h.a2 k e2 e)
  · intro k e e2
    rcases hat with h1 | h1
    · exact h.a1 k (h1 ▸ e) e2
    · rw [h1] at e
      cases e
      have := (h.out.blocks _ (.inl e2)).2
      omega
  · intro k e e2
    rcases hat with h1 | h1
    · exact h.a2 k (h1 ▸ e) e2
    · rw [h1] at e
      cases e
      have := (h.out.blocks _ (.inr e2)).2
      omega
  · exact (hk.mono fun _ _ _ => trivial).trans (k1.mono fun k _ hk e => by have := hlo k e; omega)

theorem Out3.setK (h : Out3 w b S kv av lv ks vs es) (hk : Keep (fun _ => True) w wa) (hgr : wa.grownBy w3 kv.ownBlock) (hn : xs.length = n) (hown : w3.ownsRow (b + 1) 3 1 v' n (ic xs)) (hat : v'.ownBlock = kv.ownBlock ∨ v'.ownBlock = some wa.heap.size) :
    Out3 (w3.setCell ⟨b, 1, none⟩ v') b S v' av lv xs vs es ∧ Keep (fun k => k < b) w (w3.setCell ⟨b, 1, none⟩ v') := by
  obtain ⟨q1, q2⟩ := h.out.setK hk hgr hn hown hat
  have hs := hk.size
  have k1 : Keep (fun k => kv.ownBlock ≠ some k) wa w3 := keep_grown hgr (fun k e hn => hn e)
  refine ⟨⟨q1, ?_, ?_, h.a2⟩, q2⟩
  · exact owns_keep (owns_keep (owns_keep h.own3 hk (fun _ _ => trivial)) k1 (fun k e e2 => h.a1 k e e2)) ((Keep.refl (fun k => k ≠ b) w3).setCell (fun hn => hn rfl) _) (fun k e => by have := (h.own3.lt k e).1; omega)
  · intro k e e2
    rcases hat with h1 | h1
    · exact h.a1 k e (h1 ▸ e2)
    · rw [h1] at e2
      cases e2
      have := (h.own3.lt _ e).2
      omega

theorem Out3.setA (h : Out3 w b S kv av lv ks vs es) (hk : Keep (fun _ => True) w wa) (hgr : wa.grownBy w3 av.ownBlock) (hn : xs.length = n) (hown : w3.ownsRow (b + 1) 3 1 v' n (ic xs)) (hat : v'.ownBlock = av.ownBlock ∨ v'.ownBlock = some wa.heap.size) :
    Out3 (w3.setCell ⟨b, 2, none⟩ v') b S kv v' lv ks xs es ∧ Keep (fun k => k < b) w (w3.setCell ⟨b, 2, none⟩ v') := by
  obtain ⟨q1, q2⟩ := h.out.setA hk hgr hn hown hat
  have hs := hk.size
  have k1 : Keep (fun k => av.ownBlock ≠ some k) wa w3 := keep_grown hgr (fun k e hn => hn e)
  refine ⟨⟨q1, ?_, h.a1, ?_⟩, q2⟩
  · exact owns_keep (owns_keep (owns_keep h.own3 hk (fun _ _ => trivial)) k1 (fun k e e2 => h.a2 k e e2)) ((Keep.refl (fun k => k ≠ b) w3).setCell (fun hn => hn rfl) _) (fun k e => by have := (h.own3.lt k e).1; omega)
  · intro k e e2
    rcases hat with h1 | h1
    · exact h.a2 k e (h1 ▸ e2)
    · rw [h1] at e2
      cases e2
      have := (h.own3.lt _ e).2
      omega
end

set_option maxHeartbeats 4000000 in
set_option maxRecDepth 100000 in
theorem rexpire_any (w : World) (S : Int) (kv av : Value) (L : List Wt) (now wait : Int) (h : QvAt w kv av L) (hl : L.length ≤ 100) :
    Calls Try.prog 19 #[.agg #[.int .i64 S, kv, av], .int .i64 now, .int .i64 wait] w fun e w' => ∃ kv' av' al cl, e = .returned (.tuple #[.agg #[.int .i64 S, kv', av'], .slice al (lates now wait L).length cl]) ∧ QvAt w' kv' av' (kept now wait L) ∧ IntsAt w' al (lates now wait L).length cl (lates now wait L) ∧ (∀ y, al = some y → w.heap.size ≤ y.block ∧ y.block < w'.heap.size) ∧ Fresh w w' kv' av' ∧ Below w.heap.size w w' := by
  have hb : Below w.heap.size w ((w.alloc (.cells #[.int .i64 S, kv, av] 28)).alloc (.cells #[.int .i64 0, .slice none 0 0, .slice none 0 0] 28)) := ((Below.refl _ w).alloc (Nat.le_refl _) _).alloc (by simp) _
  have hv := h.below hb
  have g2 : ((w.alloc (.cells #[.int .i64 S, kv, av] 28)).alloc (.cells #[.int .i64 0, .slice none 0 0, .slice none 0 0] 28)).heap[w.heap.size]? = some (.cells #[.int .i64 S, kv, av] 28 (0, 0)) := by
    rw [Below.heap_alloc _ _ _ (by simp)]; exact heap_alloc_new w _
  have g4 : ((w.alloc (.cells #[.int .i64 S, kv, av] 28)).alloc (.cells #[.int .i64 0, .slice none 0 0, .slice none 0 0] 28)).heap[w.heap.size + 1]? = some (.cells #[.int .i64 0, .slice none 0 0, .slice none 0 0] 28 (0, 0)) := by
    have := heap_alloc_new (w.alloc (.cells #[.int .i64 S, kv, av] 28)) (.cells #[.int .i64 0, .slice none 0 0, .slice none 0 0] 28)
    simpa using this
  have hsz : ((w.alloc (.cells #[.int .i64 S, kv, av] 28)).alloc (.cells #[.int .i64 0, .slice none 0 0, .slice none 0 0] 28)).heap.size = w.heap.size + 2 := by simp
  obtain ⟨z0, z1, z2, _⟩ := blk3 g2
  clear h
  go_enter Try.func19, Try.ntmps19
  go_wp2
  generalize hw1 : (w.alloc (.cells #[.int .i64 S, kv, av] 28)).alloc (.cells #[.int .i64 0, .slice none 0 0, .slice none 0 0] 28) = w1 at *
  clear hw1
  have HB : Hid (Below w.heap.size w w1) := hb
  obtain ⟨⟨a1, c1, rfl, hk1, _⟩, ⟨a2, c2, rfl, ha1, _⟩⟩ := hv
  have HV : Hid (IntsAt w1 a1 L.length c1 (fs L) ∧ IntsAt w1 a2 L.length c2 (sn L)) := ⟨hk1, ha1⟩
  have l1 := hk1.hle
  have l2 := ha1.hle
  have m1 := hk1.hcap
  have m2 := ha1.hcap
  unfold maxLen at m1 m2
  have hout := OutAt.new w1 S
  have HG2 : Hid (w1.heap[w.heap.size]? = some (.cells #[.int .i64 S, .slice a1 L.length c1, .slice a2 L.length c2] 28 (0, 0))) := g2
  have HG4 : Hid (w1.heap[w.heap.size + 1]? = some (.cells #[.int .i64 0, .slice none 0 0, .slice none 0 0] 28 (0, 0))) := g4
  clear hk1 ha1 g2 g4 hb z0 z1 z2
  rw [hsz] at hout
  generalize hb6 : w.heap.size + 2 = b6 at *
  have hk0 : Keep (fun k => k < b6) w1 (w1.alloc (.cells #[.int .i64 S, .slice none 0 0, .slice none 0 0] 28)) := (Keep.refl _ _).alloc _
  generalize w1.alloc (.cells #[.int .i64 S, .slice none 0 0, .slice none 0 0] 28) = w2 at *
  have hw6 : w.heap.size < b6 := by omega
  have hw7 : w.heap.size + 1 < b6 := by omega
  have HS : Hid (w1.heap.size = b6 ∧ w.heap.size + 2 = b6) := ⟨hsz, hb6⟩
  clear hb6 hsz
  go_loopw [9, 10] (fun vl vi wr => ∃ (i : Nat) (kv' av' : Value), vi = .int .i64 i ∧ i ≤ L.length ∧ Out3 wr b6 S kv' av' vl (fs (kept now wait (L.take i))) (sn (kept now wait (L.take i))) (lates now wait (L.take i)) ∧ Keep (fun k => k < b6) w1 wr) (fun _ vi _ => L.length - (intOf vi).toNat)
  case atStart => exact ⟨0, _, _, rfl, Nat.zero_le _, ⟨by simpa [kept, fs, sn] using hout, World.ownsRow_nil _ _ _ _, fun k e => by simp [Value.ownBlock] at e, fun k e => by simp [Value.ownBlock] at e⟩, hk0⟩
  case round =>
    clear hout hk0
    obtain ⟨i, kv', av', rfl, hi1, ho, hkr⟩ := hrel
    obtain ⟨c20, c21, c22, _⟩ := blk3 ((hkr.block _ (lt_of_heap HG2.out) hw6).trans HG2.out)
    by_cases hc : i < L.length
    · obtain ⟨b1, o1', rfl, hlt1, e1⟩ := HV.out.1.at_ i hc
      obtain ⟨b2, o2', rfl, hlt2, e2⟩ := HV.out.2.at_ i hc
      rw [HS.out.1] at hlt1 hlt2
      rw [fs_getD] at e1
      rw [sn_getD] at e2
      have HE2 : Hid (w1.cell? ⟨b2, o2' + i, none⟩ = some (.int .i64 (nthW L i).2)) := e2
      have e1 := hkr.cell e1 hlt1
      have e2 := hkr.cell e2 hlt2
      have hsn := kept_snoc now wait (L.take i) (nthW L i)
      rw [← take_snoc hc] at hsn
      have hsl2 := lates_snoc now wait (L.take i) (nthW L i)
      rw [← take_snoc hc] at hsl2
      have hDl := kept_len now wait (L.take i)
      have hEl := lates_len now wait (L.take i)
      rw [List.length_take] at hDl hEl
      have hlat : lateB now wait (nthW L i) = past now (add (nthW L i).2 wait) := rfl
      rw [hlat] at hsn hsl2
      generalize kept now wait (L.take i) = D at *
      generalize lates now wait (L.take i) = E at *
      generalize hxy : nthW L i = xy at *
      obtain ⟨p, y⟩ := xy
      dsimp only at e1 e2 HE2 hsn hsl2
      have ha := radd_any y wait
      have hpa := rpast_any now (add y wait)
      generalize past now (add y wait) = pb at *
      have hfl := fs_length D
      have hsl := sn_length D
      have HO : Hid (Out3 wr b6 S kv' av' u9 (fs D) (sn D) E) := ho
      have HKR : Hid (Keep (fun k => k < b6) w1 wr) := hkr
      have hbl := ho.out.lt
      cases pb with
      | true =>
        rw [if_pos rfl, List.append_nil] at hsn
        rw [if_pos rfl] at hsl2
        have HD : Hid (kept now wait (L.take (i + 1)) = D ∧ lates now wait (L.take (i + 1)) = E ++ [p]) := ⟨hsn, hsl2⟩
        have o3 := ho.own3.alloc (.cells #[.int .i64 p] 3)
        have hone := one_at wr p
        clear ho hkr hsn hsl2
        go_wp2_with (first
          | (go_at_call 34; refine (ha _).mono ?_; rintro e w' ⟨rfl, hw'⟩; subst w')
          | (go_at_call 33; refine (hpa _).mono ?_; rintro e w' ⟨rfl, hw'⟩; subst w')
          | (at_builtin; refine wpList_ints _ rfl _ _ rfl (b6 + 1) u9 E.length E [p] _ rfl o3 _ 1 1 rfl hone (fun h => by cases h) (by omega) (by simp; omega) rfl (E.length + 1) rfl ?_; intro v' w5 o5 g5 loc5))
        obtain ⟨q1, q2⟩ := HO.out.more ((Keep.refl _ wr).alloc _) g5 (by simp) o5 loc5
        exact ⟨⟨i + 1, kv', av', by simp, by omega, by rw [HD.out.1, HD.out.2]; exact q1, HKR.out.trans q2⟩, by simp [intOf]; omega⟩
      | false =>
        rw [if_neg (by simp)] at hsn
        rw [if_neg (by simp), List.append_nil] at hsl2
        have HD : Hid (kept now wait (L.take (i + 1)) = D ++ [(p, y)] ∧ lates now wait (L.take (i + 1)) = E) := ⟨hsn, hsl2⟩
        have o1 := ho.out.own1
        rw [hfl] at o1
        have d1 := ho.out.c1
        clear ho hkr hsn hsl2
        go_wp2_with (first
          | (go_at_call 34; refine (ha _).mono ?_; rintro e w' ⟨rfl, hw'⟩; subst w')
          | (go_at_call 33; refine (hpa _).mono ?_; rintro e w' ⟨rfl, hw'⟩; subst w'))
        go_cut [48] from 15 to 59 (fun _ w4 => ∃ kv2, Out3 w4 b6 S kv2 av' u9 (fs D ++ [p]) (sn D) E ∧ Keep (fun k => k < b6) w1 w4)
        case first =>
          go_region_law ((refine step_int rfl _ _ rfl (b6 + 1) kv' D.length (fs D) p rfl wr o1 rfl ((Keep.refl _ wr).alloc _).drew (heap_alloc_new _ _) (by omega) (by omega) ?_; intro gg cp w3 hown3 hgrow hat; have hmid := HO.out.out.midK ((Keep.refl _ wr).alloc _).drew hgrow; have d3 := (blk3 hmid).2.1; have f3 := fz3 hmid 1))
          all_goals (
            go_wp2
            go_meet
            obtain ⟨q1, q2⟩ := HO.out.setK ((Keep.refl _ wr).alloc _).drew hgrow (by simp [hfl]) hown3 hat
            exact ⟨_, q1, HKR.out.trans q2⟩)
        case rest =>
          obtain ⟨kv2, ho2, hk2⟩ := hcut
          have e22 := hk2.cell HE2.out hlt2
          obtain ⟨c20, c21, c22, _⟩ := blk3 ((hk2.block _ (lt_of_heap HG2.out) hw6).trans HG2.out)
          have o2 := ho2.out.own2
          rw [hsl] at o2
          have d2 := ho2.out.c2
          have hbl2 := ho2.out.lt
          have HO2 : Hid (Out3 wc b6 S kv2 av' u9 (fs D ++ [p]) (sn D) E) := ho2
          have HK2 : Hid (Keep (fun k => k < b6) w1 wc) := hk2
          clear ho2 hk2 e1 e2 d1 o1
          go_wp2_with fail
          go_region_law ((refine step_int rfl _ _ rfl (b6 + 1) av' D.length (sn D) y rfl wc o2 rfl ((Keep.refl _ wc).alloc _).drew (heap_alloc_new _ _) (by omega) (by omega) ?_; intro gg cp w3 hown3 hgrow hat; have hmid := HO2.out.out.midA ((Keep.refl _ wc).alloc _).drew hgrow; have d3 := (blk3 hmid).2.2.1; have f3 := fz3 hmid 2))
          all_goals (
            go_wp2
            obtain ⟨q1, q2⟩ := HO2.out.setA ((Keep.refl _ wc).alloc _).drew hgrow (by simp [hsl]) hown3 hat
            have q3 := q1
            rw [show fs D ++ [p] = fs (kept now wait (L.take (i + 1))) by rw [HD.out.1, fs_append]; rfl, show sn D ++ [y] = sn (kept now wait (L.take (i + 1))) by rw [HD.out.1, sn_append]; rfl, show E = lates now wait (L.take (i + 1)) from HD.out.2.symm] at q3
            exact ⟨⟨i + 1, _, _, by simp, by omega, q3, HK2.out.trans q2⟩, by simp [intOf]; omega⟩)
    · obtain rfl : i = L.length := by omega
      rw [List.take_length] at ho
      have HR : Hid (QvAt wr kv' av' (kept now wait L)) := ho.out.reads
      have HBL : Hid (∀ k, kv'.ownBlock = some k ∨ av'.ownBlock = some k → b6 < k ∧ k < wr.heap.size) := ho.out.blocks
      have HKR : Hid (Keep (fun k => k < b6) w1 wr) := hkr
      obtain ⟨⟨a3, n3, rfl, _⟩, ⟨a4, n4, rfl, _⟩⟩ := ho.out.reads
      obtain ⟨a5, n5, rfl, hI5, _, hI6⟩ := owns_ints ho.own3
      have HI : Hid (IntsAt wr a5 (lates now wait L).length n5 (lates now wait L) ∧ ∀ y, a5 = some y → b6 < y.block ∧ y.block < wr.heap.size) := ⟨hI5, fun y hy => by
        have e := hI6 y hy
        have := ho.own3.lt _ e.1
        omega⟩
      obtain ⟨d0, d1, d2, dl⟩ := blk3 ho.out.blk
      have g4 := (hkr.block _ (lt_of_heap HG4.out) hw7).trans HG4.out
      obtain ⟨c40, c41, c42, _⟩ := blk3 g4
      have f40 := fz3 g4 0
      have f41 := fz3 g4 1
      have f42 := fz3 g4 2
      generalize (kept now wait L).length = m at *
      obtain ⟨y0, hkf⟩ := res_put g4 (.int .i64 S) (.slice a3 m n3) (.slice a4 m n4)
      have HKF : Hid (Keep (fun k => k ≠ w.heap.size + 1) wr (((wr.setCell ⟨w.heap.size + 1, 0, none⟩ (.int .i64 S)).setCell ⟨w.heap.size + 1, 1, none⟩ (.slice a3 m n3)).setCell ⟨w.heap.size + 1, 2, none⟩ (.slice a4 m n4))) := hkf
      have HY : Hid ((((wr.setCell ⟨w.heap.size + 1, 0, none⟩ (.int .i64 S)).setCell ⟨w.heap.size + 1, 1, none⟩ (.slice a3 m n3)).setCell ⟨w.heap.size + 1, 2, none⟩ (.slice a4 m n4)).heap[w.heap.size + 1]? = some (.cells #[.int .i64 S, .slice a3 m n3, .slice a4 m n4] 28 (0, 0))) := y0
      clear ho hkr hc y0 hkf g4 hI5 hI6
      go_wp2
      obtain ⟨z0, z1, z2, _⟩ := blk3 HY.out
      refine bodyPost_ret (v := .tuple #[.agg #[.int .i64 S, .slice a3 m n3, .slice a4 m n4], .slice a5 (lates now wait L).length n5]) (by simp [results, Try.results19, go_sem, z0, z1, z2]) rfl ?_
      have hs := HS.out
      have hz := HKF.out.size
      refine ⟨_, _, a5, n5, rfl, HR.out.keep HKF.out (fun k e => by have := HBL.out k e; omega), HI.out.1.keep HKF.out (fun y hy => by have := HI.out.2 y hy; omega), fun y hy => ?_, fun k e => ?_, ?_⟩
      · have := HI.out.2 y hy
        omega
      · have := HBL.out k e
        omega
      · exact HB.out.trans ((((HKR.out.below (B := w.heap.size) (by omega) (fun k hk => by omega))).trans (HKF.out.below (by have := HKR.out.size; omega) (fun k hk => by omega))))

end Go.Proofs.Ytcndgcfdopjjfaa
