/-
  What the document's Words answers, as a contract: the words of a text, split at single blanks, as a new slice; it turns nothing that was there. Condition: the text has at most 250 bytes.
-/
import Derived.Test.YtmhigndplbdknaaDoorDigits
import Derived.Laws.AppendOwn
import Derived.Laws.OwnMore
namespace Go.Proofs.YtmhigndplbdknaaDoor
open Go.ChangeShapes Go.WideShapes Go.ChangeAt Go.RowKit

theorem info9 : (Tryd.prog.info? 9).map (fun i => (i.zero, i.size, i.bytes)) = some (some (.string ⟨#[]⟩), 1, 16) := by kernel_rfl
/-- Words as cells. -/
def wcs (ws : List (List UInt8)) : List Value := ws.map fun x => Value.string (mk x)
theorem wcs_snoc (ws : List (List UInt8)) (x : List UInt8) : wcs (ws ++ [x]) = wcs ws ++ [.string (mk x)] := by simp [wcs]
theorem news_one (w : World) (x : Value) (t : TypeId) : ∀ j u, [x][j]? = some u → (w.alloc (.cells #[x] t)).cell? ((⟨w.heap.size, 0, none⟩ : Addr).add j) = some u := by
  intro j u hj
  match j, hj with
  | 0, hj => simp at hj; subst hj; simp [Addr.add]
  | _ + 1, hj => simp at hj
theorem str_one (x : ByteArray) : ∀ u ∈ [Value.string x], u.oneCell' = true := by
  intro u hu
  simp at hu
  subst hu
  rfl
theorem int_one (k : Int) : ∀ u ∈ [Value.int .i64 k], u.oneCell' = true := by
  intro u hu
  simp at hu
  subst hu
  rfl
theorem wordsA_stop (acc : List UInt8) (r : List UInt8) : wordsA acc (32 :: r) = acc :: wordsA [] r := by simp [wordsA]
theorem wordsA_go (acc : List UInt8) {b : UInt8} (hb : b ≠ 32) (r : List UInt8) : wordsA acc (b :: r) = wordsA (acc ++ [b]) r := by simp [wordsA, hb]

set_option maxRecDepth 100000 in
set_option maxHeartbeats 1000000 in
theorem words_any (S : List UInt8) (hS : S.length ≤ 250) (w : World) :
    Calls Tryd.prog 30 #[.string (mk S)] w fun e w' => ∃ v, e = .returned v ∧ w'.ownsRow w.heap.size 9 1 v (words S).length (wcs (words S)) ∧ Below w.heap.size w w' := by
  obtain ⟨i0, hi, hz0, hz1, hz2⟩ := info_parts info9
  have hsz : (mk S).size = S.length := mk_size S
  go_enter Tryd.func30, Tryd.ntmps30
  go_wp2
  go_loopw [3, 4, 5] (fun v a i wr => ∃ (k : Nat) (ws : List (List UInt8)) (acc : List UInt8), k ≤ S.length ∧ i = .int .i64 k ∧ a = .string (mk acc) ∧ acc.length ≤ k ∧ ws.length ≤ k ∧ Hid (words S = ws ++ wordsA acc (S.drop k)) ∧ wr.ownsRow w.heap.size 9 1 v ws.length (wcs ws) ∧ Below w.heap.size w wr)
    (fun _ _ i _ => S.length - (intOf i).toNat)
  case atStart => exact ⟨0, [], [], Nat.zero_le _, rfl, rfl, Nat.le_refl _, Nat.le_refl _, by show words S = [] ++ wordsA [] (S.drop 0); rfl, World.ownsRow_nil _ _ _ _, Below.refl _ _⟩
  case round =>
    obtain ⟨k, ws, acc, hk, rfl, rfl, hacc, hws, hW, hown, hbel⟩ := hrel
    by_cases hlt : k < S.length
    · have h2 : k < (mk S).size := by rw [hsz]; exact hlt
      have hget : (mk S)[k] = S[k] := rfl
      have hdrop : S.drop k = S[k] :: S.drop (k + 1) := List.drop_eq_getElem_cons hlt
      have hkn : (k : Int) < ((mk S).size : Int) := by rw [hsz]; omega
      by_cases hb : S[k] = 32
      · have hd : ((((mk S)[k]).toNat : Int) == 32) = true := by rw [hget, hb]; rfl
        have SN : Hid (words S = (ws ++ [acc]) ++ wordsA [] (S.drop (k + 1))) := Hid.mk' (by
          rw [hW.out, hdrop, hb, wordsA_stop, List.append_assoc]
          rfl)
        clear hget hdrop hW hb
        go_wp2_with (at_builtin; refine wpList_append_own _ rfl _ _ 58 rfl w.heap.size 9 i0 (.string ⟨#[]⟩) 1 16 Tryd.underlying58 hi hz0 hz1 hz2 rfl (by decide) _ ws.length _ rfl (hown.alloc _) ⟨wr.heap.size, 0, none⟩ 1 1 [.string (mk acc)] rfl rfl (news_one _ _ _) (str_one _) (by unfold maxLen; omega) (by omega) (by have := hbel.size; simp; omega) ?_)
        intro v3 w3 hown3 hgrow3 _
        have hbel3 : Below w.heap.size w w3 := (hbel.alloc hbel.size _).grown hgrow3 (by have := hbel.size; simp; omega) (fun j hj => (hown.lt j hj).1)
        have hown4 : w3.ownsRow w.heap.size 9 1 v3 (ws ++ [acc]).length (wcs (ws ++ [acc])) := by rw [wcs_snoc, List.length_append]; exact hown3
        clear hown3 hgrow3 hown hbel
        go_wp2
        go_roundw
        case rel => exact ⟨k + 1, ws ++ [acc], [], by omega, by go_num, rfl, by simp, by simp; omega, SN, hown4, hbel3⟩
        case measure => simp [intOf]; omega
      · have hd : ((((mk S)[k]).toNat : Int) == 32) = false := by
          rw [hget]
          have : (S[k]).toNat ≠ 32 := fun h => hb (UInt8.toNat_inj.1 (by rw [h]; rfl))
          simp
          omega
        have SN : Hid (words S = ws ++ wordsA (acc ++ [S[k]]) (S.drop (k + 1))) := Hid.mk' (by
          rw [hW.out, hdrop, wordsA_go acc hb])
        have hcat : mk acc ++ (mk S).extract k (k + 1) = mk (acc ++ [S[k]]) := by
          have e1 : (mk S).extract k (k + 1) = mk [S[k]] := by
            rw [← mk_data ((mk S).extract k (k + 1)), Lib.extract_data, mk_list, hdrop]
            simp
          rw [e1, mk_append]
        have HC := Hid.mk' hcat
        have s1 : (mk acc).size ≤ 250 := by rw [mk_size]; omega
        have s2 : ((mk S).extract k (k + 1)).size ≤ 1 := by rw [ByteArray.size_extract]; omega
        generalize S[k] = b at *
        clear hget hdrop hW hb hcat
        go_wp2
        go_roundw
        case rel => exact ⟨k + 1, ws, acc ++ [b], by omega, by go_num, by rw [← HC.out], by simp; omega, by omega, SN, hown, hbel⟩
        case measure => simp [intOf]; omega
    · obtain rfl : k = S.length := by omega
      have SN : Hid (words S = ws ++ [acc]) := Hid.mk' (by
        rw [hW.out, List.drop_length]
        rfl)
      have hkn : ¬ ((S.length : Int) < ((mk S).size : Int)) := by rw [hsz]; omega
      clear hW
      go_wp2_with (at_builtin; refine wpList_append_own _ rfl _ _ 58 rfl w.heap.size 9 i0 (.string ⟨#[]⟩) 1 16 Tryd.underlying58 hi hz0 hz1 hz2 rfl (by decide) _ ws.length _ rfl (hown.alloc _) ⟨wr.heap.size, 0, none⟩ 1 1 [.string (mk acc)] rfl rfl (news_one _ _ _) (str_one _) (by unfold maxLen; omega) (by omega) (by have := hbel.size; simp; omega) ?_)
      intro v3 w3 hown3 hgrow3 _
      have hbel3 : Below w.heap.size w w3 := (hbel.alloc hbel.size _).grown hgrow3 (by have := hbel.size; simp; omega) (fun j hj => (hown.lt j hj).1)
      have hown4 : w3.ownsRow w.heap.size 9 1 v3 (ws ++ [acc]).length (wcs (ws ++ [acc])) := by rw [wcs_snoc, List.length_append]; exact hown3
      clear hown3 hgrow3 hown hbel
      go_wp2
      go_ret
      exact ⟨_, rfl, by rw [SN.out]; exact hown4, hbel3⟩

end Go.Proofs.YtmhigndplbdknaaDoor
