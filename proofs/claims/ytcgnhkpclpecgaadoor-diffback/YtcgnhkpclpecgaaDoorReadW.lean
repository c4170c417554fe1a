/-
  What Read and the document's Read answer, each as a contract: the list of a text, if it may be, and its error. Condition: the text has at most 1000 bytes.
-/
import Derived.Test.YtcgnhkpclpecgaaDoorTextW
namespace Go.Proofs.YtcgnhkpclpecgaaDoor
open Go.ChangeShapes Go.WideShapes Go.ChangeAt Go.RowKit

theorem ne_facts {s x : ByteArray} (h : ¬ s = x) : ¬ s.toList = x.toList ∧ (s.toList == x.toList) = false := ⟨(ne_bytes h).2, (ne_bytes h).1⟩
theorem ne_empty {s : ByteArray} (h : ¬ s = nE) : ¬ s.toList = [] ∧ s.toList.isEmpty = false := by
  have h1 : ¬ s.toList = [] := by
    rw [Lib.toList_data]
    intro e
    exact h (ByteArray.ext (Array.toList_inj.1 e))
  exact ⟨h1, by simpa using h1⟩
theorem ne_hyphen {s : ByteArray} (h : ¬ s = nH) : ¬ s.toList = [45] ∧ (s.toList == [45]) = false := by
  have h1 : ¬ s.toList = [45] := by
    rw [Lib.toList_data]
    intro e
    exact h (ByteArray.ext (Array.toList_inj.1 e))
  exact ⟨h1, by simpa using h1⟩
theorem tup2 {v : Value} {a b : Int} (h : a = b) : Ending.returned (.tuple #[v, .int .i64 a]) = .returned (.tuple #[v, .int .i64 b]) := by rw [h]

set_option maxHeartbeats 1000000 in
set_option maxRecDepth 100000 in
theorem read_any (s : ByteArray) (hs : s.size ≤ 1000) (w : World) :
    Calls Tryd.prog 7 #[.string s] w fun e w' => ∃ a n c, e = .returned (.tuple #[.slice a n c, .int .i64 (readE s)]) ∧ StrsAt w' a n c (readL s) ∧ Below w.heap.size w w' := by
  by_cases h0 : s = nE
  · subst h0
    have e1 : readE nE = 2 := by decide +kernel
    have e2 : readL nE = [] := by decide +kernel
    rw [e1, e2]
    unfold nE
    clear e1 e2
    go_enter Tryd.func7, Tryd.ntmps7
    go_wp2
    go_ret2
    exact ⟨_, _, _, rfl, StrsAt.nil _ _ _ (Nat.zero_le _), Below.refl _ _⟩
  · by_cases h1 : s = nH
    · subst h1
      have e1 : readE nH = 0 := by decide +kernel
      have e2 : readL nH = [] := by decide +kernel
      rw [e1, e2]
      unfold nH
      clear e1 e2
      go_enter Tryd.func7, Tryd.ntmps7
      go_wp2
      go_ret2
      exact ⟨_, _, _, rfl, StrsAt.nil _ _ _ (Nat.zero_le _), Below.refl _ _⟩
    · obtain ⟨q1, q2⟩ := ne_empty h0
      obtain ⟨q3, q4⟩ := ne_hyphen h1
      have HE : Hid (readE s = chk (pcs s)) := Hid.mk' (by unfold readE; rw [if_neg h0, if_neg h1])
      have HY : Hid (chk (pcs s) = 0 → readL s = spl s) := fun e => by unfold readL; rw [if_neg h0, if_neg h1, if_pos e, spl_good e]
      have HN : Hid (¬ chk (pcs s) = 0 → readL s = []) := fun e => by unfold readL; rw [if_neg h0, if_neg h1, if_neg e]
      have HK := Hid.mk' (spl_chk s)
      have HZ : Hid (∀ x ∈ spl s, x.size ≤ maxLen) := fun x hx => by
        rw [spl_eq] at hx
        obtain ⟨y, hy, rfl⟩ := List.mem_map.1 hx
        have := splitK_size _ _ y hy
        rw [mk_size]
        rw [Lib.size_eq] at hs
        unfold maxLen
        omega
      have hsp := splitN_any s hs w
      clear h0 h1
      generalize spl s = l at *
      go_enter Tryd.func7, Tryd.ntmps7
      go_wp2_with fail
      refine hsp.mono ?_
      rintro e w2 ⟨c, rfl, hst, hb2⟩
      have hck := check_any _ _ c l w2 hst HZ.out
      have HST := Hid.mk' hst
      rw [HK.out] at hck
      clear hsp hst
      by_cases hz : chk (pcs s) = 0
      · have HH := Hid.mk' (HY.out hz)
        rw [hz] at hck
        have HE0 := Hid.mk' (HE.out.trans hz)
        clear HY HN HE HK hz
        go_wp2_with fail
        refine hck.mono ?_
        rintro e w3 ⟨rfl, hb3⟩
        clear hck
        go_wp2
        go_ret2
        refine ⟨_, _, c, tup2 HE0.out.symm, ?_, hb2.trans (hb3.mono hb2.size)⟩
        rw [HH.out]
        exact HST.out.below (Nat.le_refl _) hb3
      · have HH := Hid.mk' (HN.out hz)
        have hz1 : (chk (pcs s) != 0) = true := by simpa using hz
        generalize chk (pcs s) = y at *
        clear HY HN HK
        go_wp2_with fail
        refine hck.mono ?_
        rintro e w3 ⟨rfl, hb3⟩
        clear hck
        go_wp2
        go_ret2
        refine ⟨_, _, _, tup2 HE.out.symm, ?_, hb2.trans (hb3.mono hb2.size)⟩
        rw [HH.out]
        exact StrsAt.nil _ _ _ (Nat.zero_le _)

set_option maxHeartbeats 2000000 in
set_option maxRecDepth 100000 in
theorem rread_any (s : ByteArray) (hs : s.size ≤ 1000) (w : World) :
    Calls Tryd.prog 8 #[.string s] w fun e w' => ∃ a n c, e = .returned (.tuple #[.slice a n c, .int .i64 (readE s)]) ∧ StrsAt w' a n c (readL s) ∧ Below w.heap.size w w' := by
  by_cases h0 : s = nE
  · subst h0
    have e1 : readE nE = 2 := by decide +kernel
    have e2 : readL nE = [] := by decide +kernel
    rw [e1, e2]
    unfold nE
    clear e1 e2
    go_enter Tryd.func8, Tryd.ntmps8
    go_wp2
    go_ret2
    exact ⟨_, _, _, rfl, StrsAt.nil _ _ _ (Nat.zero_le _), Below.refl _ _⟩
  · by_cases h1 : s = nH
    · subst h1
      have e1 : readE nH = 0 := by decide +kernel
      have e2 : readL nH = [] := by decide +kernel
      rw [e1, e2]
      unfold nH
      clear e1 e2
      go_enter Tryd.func8, Tryd.ntmps8
      go_wp2
      go_ret2
      exact ⟨_, _, _, rfl, StrsAt.nil _ _ _ (Nat.zero_le _), Below.refl _ _⟩
    · obtain ⟨q1, q2⟩ := ne_empty h0
      obtain ⟨q3, q4⟩ := ne_hyphen h1
      have HE : Hid (readE s = chk (pcs s)) := Hid.mk' (by unfold readE; rw [if_neg h0, if_neg h1])
      have HY : Hid (chk (pcs s) = 0 → readL s = pcs s) := fun e => by unfold readL; rw [if_neg h0, if_neg h1, if_pos e]
      have HN : Hid (¬ chk (pcs s) = 0 → readL s = []) := fun e => by unfold readL; rw [if_neg h0, if_neg h1, if_neg e]
      have HP : Hid (pcs s = (cutC [] (s.data.toList.drop 0)).map mk) := rfl
      have HZ : Hid (∀ x ∈ pcs s, x.size ≤ maxLen) := fun x hx => by have := pcs_size s x hx; unfold maxLen; omega
      obtain ⟨i0, hi, hz0, hz1, hz2⟩ := info_parts info9
      have hdl : s.data.toList.length = s.size := (Lib.size_eq s).symm
      have HDL := Hid.mk' hdl
      clear h0 h1 hdl
      go_enter Tryd.func8, Tryd.ntmps8
      go_wp2
      go_loopw [4, 5, 6] (fun v a i wr => ∃ (k : Nat) (ws : List ByteArray) (acc : List UInt8), k ≤ s.size ∧ i = .int .i64 k ∧ a = .string (mk acc) ∧ acc.length ≤ k ∧ ws.length ≤ k ∧ Hid (pcs s = ws ++ (cutC acc (s.data.toList.drop k)).map mk) ∧ wr.ownsRow w.heap.size 9 1 v ws.length (sc ws) ∧ Below w.heap.size w wr)
        (fun _ _ i _ => s.size - (intOf i).toNat)
      case atStart => exact ⟨0, [], [], Nat.zero_le _, rfl, rfl, Nat.le_refl _, Nat.le_refl _, HP, World.ownsRow_nil _ _ _ _, Below.refl _ _⟩
      case round =>
        obtain ⟨k, ws, acc, hk, rfl, rfl, hacc, hws, hW, hown, hbel⟩ := hrel
        by_cases hlt : k < s.size
        · have hl : k < s.data.toList.length := by rw [HDL.out]; exact hlt
          have hget : s[k] = s.data.toList[k] := rfl
          have hdrop : s.data.toList.drop k = s.data.toList[k] :: s.data.toList.drop (k + 1) := List.drop_eq_getElem_cons hl
          have hkn : (k : Int) < (s.size : Int) := by omega
          by_cases hb : s.data.toList[k] = 44
          · have hd : ((s[k].toNat : Int) == 44) = true := by rw [hget, hb]; rfl
            have SN : Hid (pcs s = (ws ++ [mk acc]) ++ (cutC [] (s.data.toList.drop (k + 1))).map mk) := Hid.mk' (by
              rw [hW.out, hdrop, hb, cutC_stop, List.append_assoc]
              rfl)
            clear hget hdrop hW hb
            go_wp2_with (at_builtin; refine wpList_append_own _ rfl _ _ 22 rfl w.heap.size 9 i0 (.string ⟨#[]⟩) 1 16 Tryd.underlying22 hi hz0 hz1 hz2 rfl (by decide) _ ws.length _ rfl (hown.alloc _) ⟨wr.heap.size, 0, none⟩ 1 1 [.string (mk acc)] rfl rfl (news_one _ _ _) (str_one _) (by unfold maxLen; omega) (by omega) (by have := hbel.size; simp; omega) ?_)
            intro v3 w3 hown3 hgrow3 _
            have hbel3 : Below w.heap.size w w3 := (hbel.alloc hbel.size _).grown hgrow3 (by have := hbel.size; simp; omega) (fun j hj => (hown.lt j hj).1)
            have hown4 : w3.ownsRow w.heap.size 9 1 v3 (ws ++ [mk acc]).length (sc (ws ++ [mk acc])) := by rw [sc_snoc, List.length_append]; exact hown3
            clear hown3 hgrow3 hown hbel
            go_wp2
            go_roundw
            case rel => exact ⟨k + 1, ws ++ [mk acc], [], by omega, by go_num, rfl, by simp, by simp; omega, SN, hown4, hbel3⟩
            case measure => simp [intOf]; omega
          · have hd : ((s[k].toNat : Int) == 44) = false := by
              rw [hget]
              have : (s.data.toList[k]).toNat ≠ 44 := fun h => hb (UInt8.toNat_inj.1 (by rw [h]; rfl))
              simp only [beq_eq_false_iff_ne, ne_eq]
              omega
            have SN : Hid (pcs s = ws ++ (cutC (acc ++ [s.data.toList[k]]) (s.data.toList.drop (k + 1))).map mk) := Hid.mk' (by
              rw [hW.out, hdrop, cutC_go acc hb])
            have hcat : mk acc ++ s.extract k (k + 1) = mk (acc ++ [s.data.toList[k]]) := by
              have e1 : s.extract k (k + 1) = mk [s.data.toList[k]] := by
                rw [← mk_data (s.extract k (k + 1)), Lib.extract_data, hdrop]
                simp
              rw [e1, mk_append]
            have HC := Hid.mk' hcat
            have s1 : (mk acc).size ≤ 1000 := by rw [mk_size]; omega
            have s2 : (s.extract k (k + 1)).size ≤ 1 := by rw [ByteArray.size_extract]; omega
            clear hget hdrop hW hb hcat
            go_wp2
            go_roundw
            case rel => exact ⟨k + 1, ws, acc ++ [s.data.toList[k]], by omega, by go_num, by rw [← HC.out], by simp; omega, by omega, SN, hown, hbel⟩
            case measure => simp [intOf]; omega
        · obtain rfl : k = s.size := by omega
          have SN : Hid (pcs s = ws ++ [mk acc]) := Hid.mk' (by
            rw [hW.out, ← HDL.out, List.drop_length]
            rfl)
          clear hW
          go_wp2_with (at_builtin; refine wpList_append_own _ rfl _ _ 22 rfl w.heap.size 9 i0 (.string ⟨#[]⟩) 1 16 Tryd.underlying22 hi hz0 hz1 hz2 rfl (by decide) _ ws.length _ rfl (hown.alloc _) ⟨wr.heap.size, 0, none⟩ 1 1 [.string (mk acc)] rfl rfl (news_one _ _ _) (str_one _) (by unfold maxLen; omega) (by omega) (by have := hbel.size; simp; omega) ?_)
          intro v3 w3 hown3 hgrow3 _
          have hbel3 : Below w.heap.size w w3 := (hbel.alloc hbel.size _).grown hgrow3 (by have := hbel.size; simp; omega) (fun j hj => (hown.lt j hj).1)
          have hown4 : w3.ownsRow w.heap.size 9 1 v3 (pcs s).length (sc (pcs s)) := by rw [SN.out, sc_snoc, List.length_append]; exact hown3
          obtain ⟨a4, c4, rfl, hst4, _⟩ := owns_strs hown4
          have hck := rcheck_any a4 (pcs s).length c4 (pcs s) w3 hst4 HZ.out
          have HST := Hid.mk' hst4
          clear hown3 hgrow3 hown hbel hown4 hst4 SN HP
          generalize pcs s = l at *
          by_cases hz : chk l = 0
          · have HH := Hid.mk' (HY.out hz)
            rw [hz] at hck
            have HE0 := Hid.mk' (HE.out.trans hz)
            clear HY HN HE hz
            go_wp2_with fail
            refine hck.mono ?_
            rintro e w4 ⟨rfl, hb4⟩
            clear hck
            go_wp2
            go_ret2
            refine ⟨_, _, c4, tup2 HE0.out.symm, ?_, hbel3.trans (hb4.mono hbel3.size)⟩
            rw [HH.out]
            exact HST.out.below (Nat.le_refl _) hb4
          · have HH := Hid.mk' (HN.out hz)
            have hz1 : (chk l != 0) = true := by simpa using hz
            generalize chk l = y at *
            clear HY HN
            go_wp2_with fail
            refine hck.mono ?_
            rintro e w4 ⟨rfl, hb4⟩
            clear hck
            go_wp2
            go_ret2
            refine ⟨_, _, _, tup2 HE.out.symm, ?_, hbel3.trans (hb4.mono hbel3.size)⟩
            rw [HH.out]
            exact StrsAt.nil _ _ _ (Nat.zero_le _)

end Go.Proofs.YtcgnhkpclpecgaaDoor
