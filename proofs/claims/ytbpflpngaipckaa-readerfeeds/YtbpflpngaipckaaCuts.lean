/-
  Plain mathematics: all frames of the bytes of frames, whole or cut anywhere, whatever number of rounds is enough for the bytes. Condition: the frames may be, under the cap.
-/
import Derived.Test.YtbpflpngaipckaaEnc
import Derived.Test.YtbpflpngaipckaaAll
namespace Go.Proofs.Ytbpflpngaipckaa

theorem cut_fu (c : Int) : ∀ (l : List Fr) (fu n : Nat), ((encL l).take n).length < fu → (∀ f ∈ l, chk f.k f.s.size c = 0) →
    ∃ j, j ≤ l.length ∧ allF fu ((encL l).take n) c = (l.take j, (encL (l.take j)).length, 0) ∧ (encL (l.take j)).length ≤ n
  | [], fu + 1, n, _, _ => ⟨0, Nat.le_refl _, by
      rw [allF_form (by rw [show (encL []).take n = [] from List.take_nil, readB_none])]
      rfl, Nat.zero_le _⟩
  | f :: l, fu + 1, n, hf, hg => by
    have e : encL (f :: l) = encB ⟨f.k, f.s⟩ ++ encL l := rfl
    have hlen : (encB ⟨f.k, f.s⟩).length = 3 + f.s.size := encB_length _
    by_cases hn : n < 3 + f.s.size
    · refine ⟨0, Nat.zero_le _, ?_, Nat.zero_le _⟩
      have et : (encL (f :: l)).take n = (encB ⟨f.k, f.s⟩).take n := by
        rw [e, List.take_append_of_le_length (by omega)]
      rw [et, allF_form (read_cut (hg f (by simp)) n hn)]
      rfl
    · obtain ⟨m, rfl⟩ : ∃ m, n = (encB ⟨f.k, f.s⟩).length + m := ⟨n - (3 + f.s.size), by omega⟩
      have et : (encL (f :: l)).take ((encB ⟨f.k, f.s⟩).length + m) = encB ⟨f.k, f.s⟩ ++ (encL l).take m := by
        rw [e, List.take_length_add_append]
      rw [et, List.length_append] at hf
      obtain ⟨j, hj, hall, hle⟩ := cut_fu c l fu m (by omega) (fun g hgm => hg g (by simp [hgm]))
      have hr := read_enc (hg f (by simp)) ((encL l).take m)
      have ht : (3 + (f.s.size : Int)).toNat = (encB ⟨f.k, f.s⟩).length := by rw [encB_length]; show _ = 3 + f.s.size; omega
      refine ⟨j + 1, by simpa using hj, ?_, ?_⟩
      · rw [et, allF_step (by rw [hr]), hr]
        show ((⟨f.k, f.s⟩ : Fr) :: (allF fu ((encB ⟨f.k, f.s⟩ ++ (encL l).take m).drop (3 + (f.s.size : Int)).toNat) c).1, (3 + (f.s.size : Int)).toNat + (allF fu ((encB ⟨f.k, f.s⟩ ++ (encL l).take m).drop (3 + (f.s.size : Int)).toNat) c).2.1, (allF fu ((encB ⟨f.k, f.s⟩ ++ (encL l).take m).drop (3 + (f.s.size : Int)).toNat) c).2.2) = _
        rw [ht, List.drop_left, hall, List.take_succ_cons, show encL (f :: l.take j) = encB ⟨f.k, f.s⟩ ++ encL (l.take j) from rfl, List.length_append]
      · rw [List.take_succ_cons, show encL (f :: l.take j) = encB ⟨f.k, f.s⟩ ++ encL (l.take j) from rfl, List.length_append]
        omega

theorem whole_fu (c : Int) : ∀ (l : List Fr) (fu : Nat), (encL l).length < fu → (∀ f ∈ l, chk f.k f.s.size c = 0) → allF fu (encL l) c = (l, (encL l).length, 0)
  | [], fu + 1, _, _ => by
    rw [allF_form (by rw [show encL [] = [] from rfl, readB_none])]
    rfl
  | f :: l, fu + 1, hf, hg => by
    have hr := read_enc (hg f (by simp)) (encL l)
    have e : encL (f :: l) = encB ⟨f.k, f.s⟩ ++ encL l := rfl
    have ht : (3 + (f.s.size : Int)).toNat = (encB ⟨f.k, f.s⟩).length := by rw [encB_length]; show _ = 3 + f.s.size; omega
    have hlen : (encB ⟨f.k, f.s⟩).length = 3 + f.s.size := encB_length _
    rw [e, List.length_append] at hf
    rw [e, allF_step (by rw [hr]), hr]
    show ((⟨f.k, f.s⟩ : Fr) :: (allF fu ((encB ⟨f.k, f.s⟩ ++ encL l).drop (3 + (f.s.size : Int)).toNat) c).1, (3 + (f.s.size : Int)).toNat + (allF fu ((encB ⟨f.k, f.s⟩ ++ encL l).drop (3 + (f.s.size : Int)).toNat) c).2.1, (allF fu ((encB ⟨f.k, f.s⟩ ++ encL l).drop (3 + (f.s.size : Int)).toNat) c).2.2) = _
    rw [ht, List.drop_left, whole_fu c l fu (by omega) (fun g hgm => hg g (by simp [hgm])), List.length_append]

theorem whole_all (c : Int) (l : List Fr) (h : ∀ f ∈ l, chk f.k f.s.size c = 0) : allB (encL l) c = (l, (encL l).length, 0) := whole_fu c l _ (Nat.lt_succ_self _) h
theorem cut_all (c : Int) (l : List Fr) (n : Nat) (h : ∀ f ∈ l, chk f.k f.s.size c = 0) :
    ∃ j, j ≤ l.length ∧ allB ((encL l).take n) c = (l.take j, (encL (l.take j)).length, 0) ∧ (encL (l.take j)).length ≤ n := cut_fu c l _ n (Nat.lt_succ_self _) h
theorem drop_encL (l : List Fr) (j : Nat) : (encL l).drop (encL (l.take j)).length = encL (l.drop j) := by
  conv => lhs; rw [← List.take_append_drop j l, encL_append, List.take_append_drop]
  exact List.drop_left
theorem len_encL (l : List Fr) (j : Nat) : (encL (l.take j)).length + (encL (l.drop j)).length = (encL l).length := by
  rw [← List.length_append, ← encL_append, List.take_append_drop]
theorem encL_ge : ∀ (l : List Fr), l.length ≤ (encL l).length
  | [] => Nat.le_refl _
  | f :: l => by
    have := encL_ge l
    rw [show encL (f :: l) = encB f ++ encL l from rfl, List.length_append, encB_length, List.length_cons]
    omega

end Go.Proofs.Ytbpflpngaipckaa
