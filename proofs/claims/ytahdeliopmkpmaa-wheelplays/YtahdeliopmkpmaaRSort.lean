/-
  What Sorted of the document does: all keys by deadline, and of one deadline by key, in a new row. Conditions: the pair lies where it is said to lie, its keys rise, fewer than 1000.
-/
import Derived.Test.YtahdeliopmkpmaaRSet
namespace Go.Proofs.Ytahdeliopmkpmaa
open Go.ChangeShapes Go.WideShapes Go.ChangeAt Go.RowKit Go.Maps

/-- How many the pair has. -/
def lenAt (w : World) (b : Nat) : Nat := match w.cell? ⟨b, 0, none⟩ with | some (.slice _ n _) => n | _ => 0
theorem lenAt_of {w : World} {b n c : Nat} {a : Option Addr} (h : w.cell? ⟨b, 0, none⟩ = some (.slice a n c)) : lenAt w b = n := by
  unfold lenAt
  rw [h]

theorem WvAt.far {w w' : World} {g : Nat} {kv av kv0 av0 : Value} {R R0 : List (Int × Int)} {t : TypeId} {f : Nat × Nat} (h : WvAt w kv av R) (h0 : WvAt w kv0 av0 R0) (hg : w.heap[g]? = some (.cells #[kv0, av0] t f)) (hk : Keep (fun k => k ≠ g) w w') : WvAt w' kv av R := by
  obtain ⟨⟨p0, s0, rfl, _⟩, ⟨p1, s1, rfl, _⟩⟩ := h0
  obtain ⟨⟨a1, c1, e1, h1⟩, ⟨a2, c2, e2, h2⟩⟩ := h
  exact ⟨⟨a1, c1, e1, h1.far hg hk⟩, ⟨a2, c2, e2, h2.far hg hk⟩⟩
theorem WvAt.lt {w : World} {kv av : Value} {R : List (Int × Int)} (h : WvAt w kv av R) (h0 : 0 < R.length) : ∀ k, kv.ownBlock = some k ∨ av.ownBlock = some k → k < w.heap.size := by
  obtain ⟨⟨a1, c1, rfl, h1⟩, ⟨a2, c2, rfl, h2⟩⟩ := h
  obtain ⟨b1, o1, rfl, hlt1, _⟩ := h1.at_ 0 h0
  obtain ⟨b2, o2, rfl, hlt2, _⟩ := h2.at_ 0 h0
  rintro k (e | e)
  · have : b1 = k := by simpa [Value.ownBlock] using e
    omega
  · have : b2 = k := by simpa [Value.ownBlock] using e
    omega

/-- What the sort has behind some rounds: the row P, the pair Rc that is left. -/
structure SortS (w wr : World) (v kv av : Value) (R Rc : List (Int × Int)) (P : List Int) : Prop where
  own : wr.ownsRow (w.heap.size + 1) 3 1 v P.length (ic P)
  blk : wr.heap[w.heap.size]? = some (.cells #[kv, av] 28 (0, 0))
  rd : WvAt wr kv av Rc
  ris : Ris Rc
  len : P.length + Rc.length = R.length
  eq : P ++ keysR Rc = keysR R
  aside : ∀ k, v.ownBlock = some k → kv.ownBlock ≠ some k ∧ av.ownBlock ≠ some k
  keep : Keep (fun k => k < w.heap.size) w wr

theorem SortS.congr {w wr wq : World} {v kv av : Value} {R Rc : List (Int × Int)} {P : List Int} (h : SortS w wr v kv av R Rc P) (q : Nat) (e : wq = wr.drewN q) : SortS w wq v kv av R Rc P := by
  subst e
  exact ⟨owns_keep h.own ((Keep.refl (fun _ => True) wr).drewN q) (fun _ _ => trivial), h.blk, h.rd.congr rfl, h.ris, h.len, h.eq, h.aside, h.keep.drewN q⟩

/-- One is put behind the row. -/
theorem SortS.put {w wr wa w3 : World} {v kv av : Value} {R Rc : List (Int × Int)} {P : List Int} {gg cp n : Nat} {x : Int} (h : SortS w wr v kv av R Rc P) (h0 : 0 < Rc.length) (hn : P.length = n) (hk : Keep (fun _ => True) wr wa) (hgr : wa.grownBy w3 v.ownBlock) (hown : w3.ownsRow (w.heap.size + 1) 3 1 (.slice (some ⟨gg, 0, none⟩) (n + 1) cp) (n + 1) (ic P ++ [.int .i64 x])) (hat : v.ownBlock = some gg ∨ gg = wa.heap.size) :
    w3.ownsRow (w.heap.size + 1) 3 1 (.slice (some ⟨gg, 0, none⟩) (n + 1) cp) (P ++ [x]).length (ic (P ++ [x])) ∧ w3.heap[w.heap.size]? = some (.cells #[kv, av] 28 (0, 0)) ∧ WvAt w3 kv av Rc ∧ (kv.ownBlock ≠ some gg ∧ av.ownBlock ≠ some gg) ∧ Keep (fun k => k < w.heap.size) w w3 := by
  subst hn
  have k1 : Keep (fun k => v.ownBlock ≠ some k) wa w3 := keep_grown hgr (fun k e hn => hn e)
  have k2 : Keep (fun k => v.ownBlock ≠ some k) wr w3 := (hk.mono fun _ _ _ => trivial).trans k1
  have hlo : ∀ k, v.ownBlock = some k → w.heap.size < k := fun k e => by have := (h.own.lt k e).1; omega
  have hbl : w.heap.size < wr.heap.size := (Array.getElem?_eq_some_iff.1 h.blk).1
  have hs := hk.size
  refine ⟨?_, ?_, h.rd.keep k2 (fun k e e2 => by rcases e with e | e; exact (h.aside k e2).1 e; exact (h.aside k e2).2 e), ?_, ?_⟩
  · have e1 : ic (P ++ [x]) = ic P ++ [.int .i64 x] := by simp [ic]
    rw [e1, List.length_append]
    exact hown
  · rw [k2.block _ hbl (fun e => by have := hlo _ e; omega)]; exact h.blk
  · rcases hat with e | e
    · exact h.aside _ e
    · constructor
      · intro e2; have := h.rd.lt h0 _ (.inl e2); omega
      · intro e2; have := h.rd.lt h0 _ (.inr e2); omega
  · exact h.keep.trans (k2.mono fun k _ hk e => by have := hlo k e; omega)

set_option maxHeartbeats 8000000 in
set_option maxRecDepth 100000 in
theorem sorted_any (w : World) (kv av : Value) (R : List (Int × Int)) (h : WvAt w kv av R) (hr : Ris R) (hl : R.length ≤ 999) :
    Calls Try.prog 22 #[.agg #[kv, av]] w fun e w' => ∃ v, e = .returned v ∧ w'.ownsRow w.heap.size 3 1 v R.length (ic (keysR R)) ∧ Below w.heap.size w w' := by
  have hb : Below w.heap.size w (w.alloc (.cells #[kv, av] 28)) := (Below.refl _ w).alloc (Nat.le_refl _) _
  have hst : SortS w (w.alloc (.cells #[kv, av] 28)) (.slice none 0 0) kv av R R [] := ⟨World.ownsRow_nil _ _ _ _, heap_alloc_new w _, h.below hb, hr, by simp, rfl, fun k e => by simp [Value.ownBlock] at e, (Keep.refl _ w).alloc _⟩
  clear h hr hb
  go_enter Try.func22, Try.ntmps22
  go_upto_region 1 with fail
  generalize w.alloc (.cells #[kv, av] 28) = w9 at *
  go_wp2
  go_loopw [3] (fun v wr => ∃ (kv' av' : Value) (Rc : List (Int × Int)) (P : List Int), SortS w wr v kv' av' R Rc P) (fun _ wr => lenAt wr w.heap.size)
  case atStart => exact ⟨_, _, _, _, hst⟩
  case round =>
    obtain ⟨kv', av', Rc, P, hs⟩ := hrel
    clear hst
    have hlen := hs.len
    have HS : Hid (SortS w wr u3 kv' av' R Rc P) := hs
    have c0 := blk_c0 hs.blk
    have c1 := blk_c1 hs.blk
    obtain ⟨⟨a1, s1, rfl, hk1⟩, ⟨a2, s2, rfl, ha1⟩⟩ := hs.rd
    have HLEN : Hid (lenAt wr w.heap.size = Rc.length) := lenAt_of c0
    have l1 := hk1.hle
    have l2 := ha1.hle
    have m1 := hk1.hcap
    have m2 := ha1.hcap
    unfold maxLen at m1 m2
    have HV : Hid (IntsAt wr a1 Rc.length s1 (fs Rc) ∧ IntsAt wr a2 Rc.length s2 (sn Rc)) := ⟨hk1, ha1⟩
    clear hs hk1 ha1
    by_cases hc : 0 < Rc.length
    · obtain ⟨b1, o1, e1, _⟩ := HV.out.1.at_ 0 hc
      obtain ⟨b2, o2, e2, _⟩ := HV.out.2.at_ 0 hc
      subst e1 e2
      go_wp2
      go_loopw [4, 5] (fun vk vi wq => ∃ (i m q : Nat), vk = .int .i64 m ∧ vi = .int .i64 i ∧ 1 ≤ i ∧ i ≤ Rc.length ∧ m < i ∧ wq = wr.drewN q ∧ (∀ j, j < i → (nthR Rc m).2 ≤ (nthR Rc j).2) ∧ (∀ j, j < m → (nthR Rc m).2 < (nthR Rc j).2)) (fun _ vi _ => Rc.length - (intOf vi).toNat)
      case atStart =>
        refine ⟨1, 0, 0, rfl, rfl, by omega, by omega, by omega, rfl, ?_, ?_⟩
        · intro j hj
          obtain rfl : j = 0 := by omega
          exact Int.le_refl _
        · intro j hj
          omega
      case round =>
        obtain ⟨i, m, q, rfl, rfl, hi0, hi1, hm, hwq, hle, hf⟩ := hrel
        subst hwq
        have HL : Hid ((∀ j, j < i → (nthR Rc m).2 ≤ (nthR Rc j).2) ∧ (∀ j, j < m → (nthR Rc m).2 < (nthR Rc j).2)) := ⟨hle, hf⟩
        clear hle hf
        by_cases hci : i < Rc.length
        · obtain ⟨b3, o3, e3, _, q1⟩ := HV.out.2.at_ i hci
          obtain ⟨b4, o4, e4, _, q2⟩ := HV.out.2.at_ m (by omega)
          cases e3
          cases e4
          rw [sn_getD] at q1 q2
          have hmn : (m : Int) < (Rc.length : Int) := by omega
          have hin : (i : Int) < (Rc.length : Int) := by omega
          by_cases hlt : (nthR Rc i).2 < (nthR Rc m).2
          · have HN : Hid ((∀ j, j < i + 1 → (nthR Rc i).2 ≤ (nthR Rc j).2) ∧ (∀ j, j < i → (nthR Rc i).2 < (nthR Rc j).2)) := by
              refine ⟨fun j hj => ?_, fun j hj => ?_⟩
              · rcases Nat.lt_or_ge j i with h1 | h1
                · have := HL.out.1 j h1; omega
                · obtain rfl : j = i := by omega
                  exact Int.le_refl _
              · have := HL.out.1 j hj; omega
            generalize (nthR Rc i).2 = x at q1 hlt
            generalize (nthR Rc m).2 = y at q2 hlt
            go_wp2
            go_quiet (fail)
            go_wp2
            exact ⟨⟨i + 1, i, _, rfl, by simp, by omega, by omega, by omega, rfl, HN.out.1, HN.out.2⟩, by simp [intOf]; omega⟩
          · have HN : Hid (∀ j, j < i + 1 → (nthR Rc m).2 ≤ (nthR Rc j).2) := by
              intro j hj
              rcases Nat.lt_or_ge j i with h1 | h1
              · exact HL.out.1 j h1
              · obtain rfl : j = i := by omega
                omega
            generalize (nthR Rc i).2 = x at q1 hlt
            generalize (nthR Rc m).2 = y at q2 hlt
            go_wp2
            go_quiet (fail)
            go_wp2
            exact ⟨⟨i + 1, m, _, rfl, by simp, by omega, by omega, by omega, rfl, HN.out, HL.out.2⟩, by simp [intOf]; omega⟩
        · obtain rfl : i = Rc.length := by omega
          have HQ : Hid (SortS w (wr.drewN q) u3 (.slice (some ⟨b1, o1, none⟩) Rc.length s1) (.slice (some ⟨b2, o2, none⟩) Rc.length s2) R Rc P) := HS.out.congr q rfl
          have k0 := blk_c0 HQ.out.blk
          have k1 := blk_c1 HQ.out.blk
          obtain ⟨b3, o3, e3, _, k2⟩ := (HV.out.1.congr (w' := wr.drewN q) rfl).at_ m hm
          cases e3
          rw [fs_getD] at k2
          have hown := HQ.out.own
          have hq0 : w.heap.size < (wr.drewN q).heap.size := (Array.getElem?_eq_some_iff.1 HQ.out.blk).1
          have HKF : Hid (keysR Rc = (nthR Rc m).1 :: keysR (delR Rc (nthR Rc m).1)) := keys_first HQ.out.ris hm (fun j hj => HL.out.1 j hj) HL.out.2
          have HDL : Hid ((delR Rc (nthR Rc m).1).length + 1 = Rc.length) := by
            have e1 := congrArg List.length HKF.out
            rw [keysR_length, List.length_cons, keysR_length] at e1
            exact e1.symm
          generalize (nthR Rc m).1 = x at *
          have hmn : (m : Int) < (Rc.length : Int) := by omega
          clear c0 c1 HS HL HV
          generalize wr.drewN q = wq at *
          go_wp2_with (first
            | (at_builtin; refine wpList_int rfl _ _ rfl (w.heap.size + 1) u3 P.length P x rfl wq hown rfl ((Keep.refl _ wq).alloc _) (heap_alloc_new _ _) (by omega) (by omega) ?_; intro gg cp w3 hown3 hgrow hat; have hput := HQ.out.put hc rfl ((Keep.refl _ wq).alloc _) hgrow hown3 hat; have j0 := blk_c0 hput.2.1; have j1 := blk_c1 hput.2.1))
          obtain ⟨p1, p2, p3, p4, p5⟩ := hput
          refine (rcancel_any w3 _ _ Rc p3 HQ.out.ris (by omega) x).mono ?_
          rintro e w4 ⟨kv2, av2, rfl, hv4, hfr, hb4⟩
          have hs3 : w.heap.size < w3.heap.size := (Array.getElem?_eq_some_iff.1 p2).1
          have g2 := (hb4.block w.heap.size hs3).trans p2
          have hs4 := hb4.size
          have HSH : Hid (WvAt w4 kv2 av2 (delR Rc x)) := hv4
          obtain ⟨⟨a5, s5, rfl, _⟩, ⟨a6, s6, rfl, _⟩⟩ := hv4
          have q2 := (Below.heap_alloc w4 (.cells #[.slice a5 (delR Rc x).length s5, .slice a6 (delR Rc x).length s6] 28) w.heap.size (by omega)).trans g2
          have q8 := heap_alloc_new w4 (.cells #[.slice a5 (delR Rc x).length s5, .slice a6 (delR Rc x).length s6] 28)
          have k8 : Keep (fun _ => True) w4 (w4.alloc (.cells #[.slice a5 (delR Rc x).length s5, .slice a6 (delR Rc x).length s6] 28)) := (Keep.refl _ _).alloc _
          go_upto_region 12 with fail
          have HP : Hid (w3.ownsRow (w.heap.size + 1) 3 1 (.slice (some ⟨gg, 0, none⟩) (P.length + 1) cp) (P ++ [x]).length (ic (P ++ [x])) ∧ WvAt w3 (.slice (some ⟨b1, o1, none⟩) Rc.length s1) (.slice (some ⟨b2, o2, none⟩) Rc.length s2) Rc ∧ Keep (fun k => k < w.heap.size) w w3 ∧ Below w3.heap.size w3 w4) := ⟨p1, p3, p5, hb4⟩
          have HFR : Hid (∀ k, k = gg → (Value.slice a5 (delR Rc x).length s5).ownBlock ≠ some k ∧ (Value.slice a6 (delR Rc x).length s6).ownBlock ≠ some k) := by
            intro k e
            subst e
            have h3 := (p1.lt k rfl).2
            constructor
            · intro e2
              rcases hfr k (.inl e2) with (h1 | h1) | h1
              · exact p4.1 h1
              · exact p4.2 h1
              · omega
            · intro e2
              rcases hfr k (.inr e2) with (h1 | h1) | h1
              · exact p4.1 h1
              · exact p4.2 h1
              · omega
          have hs8 : (w4.alloc (.cells #[.slice a5 (delR Rc x).length s5, .slice a6 (delR Rc x).length s6] 28)).heap.size = w4.heap.size + 1 := by simp
          clear hown3 hgrow hat p1 p3 p4 p5 hb4 hfr j0 j1 hown k0 k1 k2 g2 p2
          generalize hD : delR Rc x = D at *
          generalize w4.alloc (.cells #[.slice a5 D.length s5, .slice a6 D.length s6] 28) = w8 at *
          generalize hb8 : w4.heap.size = b8 at *
          have c80 := blk_c0 q8
          have c81 := blk_c1 q8
          have c20 := blk_c0 q2
          have c21 := blk_c1 q2
          have f20 : w8.frozen? ⟨w.heap.size, 0, none⟩ = false := by simp [World.frozen?, q2]
          have f21 : w8.frozen? ⟨w.heap.size, 1, none⟩ = false := by simp [World.frozen?, q2]
          have y2 := heap_set1 (u := .slice a6 D.length s6) (heap_set0 (u := .slice a5 D.length s5) q2)
          have HK9 : Hid (Keep (fun k => k ≠ w.heap.size) w8 ((w8.setCell ⟨w.heap.size, 0, none⟩ (.slice a5 D.length s5)).setCell ⟨w.heap.size, 1, none⟩ (.slice a6 D.length s6))) := ((Keep.refl _ _).setCell (fun hn => hn rfl) _).setCell (fun hn => hn rfl) _
          have HQ2 : Hid (w8.heap[w.heap.size]? = some (.cells #[.slice (some ⟨b1, o1, none⟩) Rc.length s1, .slice (some ⟨b2, o2, none⟩) Rc.length s2] 28 (0, 0))) := q2
          have HY2 : Hid (((w8.setCell ⟨w.heap.size, 0, none⟩ (.slice a5 D.length s5)).setCell ⟨w.heap.size, 1, none⟩ (.slice a6 D.length s6)).heap[w.heap.size]? = some (.cells #[.slice a5 D.length s5, .slice a6 D.length s6] 28 (0, 0))) := y2
          have HK8 : Hid (Keep (fun _ => True) w4 w8) := k8
          have HDE : Hid (delR Rc x = D) := hD
          clear q2 q8 y2 k8 hD
          go_wp2
          obtain ⟨p1, p3, p5, hb4⟩ := HP.out
          have k9 := HK9.out
          generalize (w8.setCell ⟨w.heap.size, 0, none⟩ (.slice a5 D.length s5)).setCell ⟨w.heap.size, 1, none⟩ (.slice a6 D.length s6) = w9 at *
          have k38 : Keep (fun _ => True) w3 w8 := (keep_below hb4).trans HK8.out
          have hp3 : WvAt w8 (.slice (some ⟨b1, o1, none⟩) Rc.length s1) (.slice (some ⟨b2, o2, none⟩) Rc.length s2) Rc := p3.keep k38 (fun _ _ => trivial)
          have hfin : SortS w w9 (.slice (some ⟨gg, 0, none⟩) (P.length + 1) cp) (.slice a5 D.length s5) (.slice a6 D.length s6) R D (P ++ [x]) := by
            refine ⟨owns_keep (owns_keep p1 k38 (fun _ _ => trivial)) k9 (fun k e => by have := (p1.lt k e).1; omega), HY2.out, (HSH.out.keep HK8.out (fun _ _ => trivial)).far hp3 HQ2.out k9, ?_, ?_, ?_, ?_, ?_⟩
            · rw [← HDE.out]; exact delR_ris HQ.out.ris x
            · have := HDL.out; simp; omega
            · rw [List.append_assoc, List.singleton_append, ← HKF.out]; exact HQ.out.eq
            · intro k e
              have e3 : gg = k := by simpa [Value.ownBlock] using e
              exact HFR.out k e3.symm
            · exact (p5.trans (k38.mono fun _ _ _ => trivial)).trans (k9.mono fun k _ hk => by omega)
          refine ⟨⟨_, _, _, _, hfin⟩, ?_⟩
          rw [HLEN.out, lenAt_of (blk_c0 HY2.out)]
          have := HDL.out
          omega
    · have h0 : Rc.length = 0 := by omega
      have hRc : Rc = [] := List.eq_nil_of_length_eq_zero h0
      subst hRc
      have HF : Hid (wr.ownsRow (w.heap.size + 1) 3 1 u3 R.length (ic (keysR R)) ∧ Keep (fun k => k < w.heap.size) w wr) := by
        have h1 := HS.out.eq
        have h2 := HS.out.own
        rw [keysR_nil, List.append_nil] at h1
        rw [h1, keysR_length] at h2
        exact ⟨h2, HS.out.keep⟩
      clear hc hlen HS HV
      go_wp2
      go_ret
      exact ⟨_, rfl, Go.Joins.ownsRow_le HF.out.1 (by omega), HF.out.2.below (Nat.le_refl _) (fun _ h => h)⟩

end Go.Proofs.Ytahdeliopmkpmaa
