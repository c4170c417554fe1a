/-
  The pieces of a text, together, are the text; the document's own Same answers true at two slices that read as the same texts. Condition, of Same: both slices read as those texts.
-/
import Derived.Test.YtbpflpngaipckaaSplit
namespace Go.Proofs.Ytbpflpngaipckaa
open Go.ChangeShapes Go.WideShapes Go.ChangeAt Go.RowKit

/-- Texts, one behind the other. -/
def joinB (l : List ByteArray) : List UInt8 := l.flatMap (·.data.toList)
theorem joinB_nil : joinB [] = [] := rfl
theorem joinB_append (l r : List ByteArray) : joinB (l ++ r) = joinB l ++ joinB r := by simp [joinB]
theorem joinB_one (s : ByteArray) : joinB [s] = s.data.toList := by simp [joinB]
theorem data_len (s : ByteArray) : s.data.toList.length = s.size := Array.length_toList

theorem extract_list (b : ByteArray) (i j : Nat) : (b.extract i j).data.toList = (b.data.toList.drop i).take (j - i) := by
  simp [List.extract]

theorem join_step {b : ByteArray} {st : List ByteArray × Nat} {z : Int} (h : joinB st.1 = b.data.toList.take st.2) : joinB (cutStep b st z).1 = b.data.toList.take (cutStep b st z).2 := by
  unfold cutStep
  split
  · rename_i hz
    obtain ⟨X, rfl⟩ : ∃ X : Nat, z = X := ⟨z.toNat, by omega⟩
    show joinB (st.1 ++ [b.extract st.2 ((X : Int)).toNat]) = b.data.toList.take ((X : Int)).toNat
    rw [Int.toNat_natCast, joinB_append, joinB_one, h, extract_list]
    have e : X = st.2 + (X - st.2) := by omega
    conv => rhs; rw [e, List.take_add]
  · exact h
theorem join_fold (b : ByteArray) : ∀ (zs : List Int) (st : List ByteArray × Nat), joinB st.1 = b.data.toList.take st.2 → joinB (zs.foldl (cutStep b) st).1 = b.data.toList.take (zs.foldl (cutStep b) st).2
  | [], _, h => h
  | z :: zs, st, h => by rw [List.foldl_cons]; exact join_fold b zs _ (join_step h)
theorem join_split (b : ByteArray) (zs : List Int) : joinB (splitB b zs) = b.data.toList := by
  unfold splitB
  have := join_fold b zs ([], 0) rfl
  rw [joinB_append, joinB_one, extract_list, show (cutL b zs) = zs.foldl (cutStep b) ([], 0) from rfl, this]
  rw [List.take_of_length_le (l := List.drop _ _) (by rw [List.length_drop, data_len]; exact Nat.le_refl _), List.take_append_drop]

theorem joinB_snoc (l : List ByteArray) (k : Nat) (h : k < l.length) : joinB (l.take (k + 1)) = joinB (l.take k) ++ (l.getD k ⟨#[]⟩).data.toList := by
  rw [List.take_succ_eq_append_getElem h, joinB_append]
  simp [joinB, List.getD, h]
theorem joinB_take_len (l : List ByteArray) (k : Nat) : (joinB (l.take k)).length ≤ (joinB l).length := by
  conv => rhs; rw [← List.take_append_drop k l, joinB_append, List.length_append]
  exact Nat.le_add_right _ _

set_option maxHeartbeats 400000 in
set_option maxRecDepth 100000 in
theorem same_strs (a a' : Option Addr) (n ca cb : Nat) (l : List ByteArray) (w : World) (h : StrsAt w a n ca l) (h' : StrsAt w a' n cb l) :
    Calls Try.prog 21 #[.slice a n ca, .slice a' n cb] w fun e w' => e = .returned (.bool true) ∧ Below w.heap.size w w' := by
  have hcap := h.hcap
  have hle := h.hle
  unfold maxLen at hcap
  have H : Hid (StrsAt w a n ca l) := h
  have H' : Hid (StrsAt w a' n cb l) := h'
  clear h h'
  go_enter Try.func21, Try.ntmps21
  go_wp2
  go_loopw [5] (fun i wr => ∃ k : Nat, k ≤ n ∧ i = .int .i64 k ∧ Below w.heap.size w wr) (fun i _ => n - (intOf i).toNat)
  case atStart => exact ⟨0, Nat.zero_le _, rfl, Below.refl _ _⟩
  case round =>
    obtain ⟨k, hk, rfl, hbel⟩ := hrel
    by_cases hlt : k < n
    · obtain ⟨b, off, rfl, hb, hc⟩ := (H.out.below hbel).at_ k hlt
      obtain ⟨b', off', rfl, hb', hc'⟩ := (H'.out.below hbel).at_ k hlt
      generalize l.getD k ⟨#[]⟩ = f at hc hc'
      have hkn : (k : Int) < (n : Int) := by omega
      clear H H'
      go_wp2
      go_quiet (fail)
      go_wp2
      go_roundw
      case rel => exact ⟨k + 1, by omega, by go_num, below_drewN hbel _⟩
      case measure => simp [intOf]; omega
    · go_wp2
      go_ret
      exact ⟨rfl, hbel⟩

end Go.Proofs.Ytbpflpngaipckaa
