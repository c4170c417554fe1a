/-
  Plain mathematics: what is written is read as it was, with its bytes alone, whatever stands behind it; frames one behind the other are read one by one; of bytes cut anywhere the first ones. Condition: the frames may be, under the cap.
-/
import Derived.Test.YtbpflpngaipckaaPure
namespace Go.Proofs.Ytbpflpngaipckaa

theorem enc_k {k : Int} (h1 : 1 ≤ k) (h2 : k ≤ 8) : (((UInt8.ofNat k.toNat).toNat : Nat) : Int) = k := by
  rw [UInt8.toNat_ofNat']
  omega
theorem enc_n {n : Nat} (h : n ≤ 1024) : (((UInt8.ofNat (n / 256)).toNat : Nat) : Int) * 256 + ((UInt8.ofNat (n % 256)).toNat : Nat) = n := by
  rw [UInt8.toNat_ofNat', UInt8.toNat_ofNat']
  omega

theorem head_enc {k : Int} {s : ByteArray} {c : Int} (h : chk k s.size c = 0) (r : List UInt8) : headB (encB ⟨k, s⟩ ++ r) c = (k, (s.size : Int), 0) := by
  obtain ⟨h1, h2, h3⟩ := chk_zero h
  have h4 := capd_hi c
  have ek := enc_k h1 h2
  have en := enc_n (n := s.size) (by omega)
  show headB (UInt8.ofNat k.toNat :: UInt8.ofNat (s.size / 256) :: UInt8.ofNat (s.size % 256) :: (s.data.toList ++ r)) c = _
  rw [headB_ok (by rw [ek, en]; exact h), ek, en]

theorem read_enc {k : Int} {s : ByteArray} {c : Int} (h : chk k s.size c = 0) (r : List UInt8) : readB (encB ⟨k, s⟩ ++ r) c = (⟨k, s⟩, 3 + (s.size : Int), 0) := by
  have hh := head_enc h r
  have hl : ((encB ⟨k, s⟩ ++ r).length : Int) = 3 + s.size + r.length := by
    rw [List.length_append, encB_length]
    simp
  rw [readB_ok (by rw [hh]) (by rw [hh, hl]; show 3 + (s.size : Int) ≤ _; omega), hh]
  have e : ((encB ⟨k, s⟩ ++ r).drop 3).take s.size = s.data.toList := by
    show (s.data.toList ++ r).take s.size = _
    have : s.data.toList.length = s.size := Array.length_toList
    rw [← this]
    exact List.take_left
  show ((⟨k, mkS (((encB ⟨k, s⟩ ++ r).drop 3).take (s.size : Int).toNat)⟩ : Fr), 3 + (s.size : Int), (0 : Int)) = _
  rw [Int.toNat_natCast, e, mkS_of]

/-- A frame's bytes cut short: they are missing. -/
theorem read_cut {k : Int} {s : ByteArray} {c : Int} (h : chk k s.size c = 0) (n : Nat) (hn : n < 3 + s.size) : (readB ((encB ⟨k, s⟩).take n) c).2.2 = 2 := by
  by_cases h3 : n < 3
  · have hl : ((encB ⟨k, s⟩).take n).length < 3 := by rw [List.length_take]; omega
    rw [readB_head (by rw [headB_short hl]; decide), headB_short hl]
  · obtain ⟨m, rfl⟩ : ∃ m, n = m + 3 := ⟨n - 3, by omega⟩
    have e : (encB ⟨k, s⟩).take (m + 3) = UInt8.ofNat k.toNat :: UInt8.ofNat (s.size / 256) :: UInt8.ofNat (s.size % 256) :: s.data.toList.take m := rfl
    obtain ⟨h1, h2, h3'⟩ := chk_zero h
    have h4 := capd_hi c
    have ek := enc_k h1 h2
    have en := enc_n (n := s.size) (by omega)
    have hh : headB ((encB ⟨k, s⟩).take (m + 3)) c = (k, (s.size : Int), 0) := by
      rw [e, headB_ok (by rw [ek, en]; exact h), ek, en]
    rw [readB_part (by rw [hh]) (by rw [hh, List.length_take, encB_length]; show ((min (m + 3) (3 + s.size) : Nat) : Int) < 3 + (s.size : Int); omega)]

/-- Frames one behind the other, as bytes. -/
def encL : List Fr → List UInt8
  | [] => []
  | f :: r => encB f ++ encL r
theorem encL_append (l r : List Fr) : encL (l ++ r) = encL l ++ encL r := by
  induction l with
  | nil => rfl
  | cons f l ih => simp [encL, ih]

theorem readB_none (c : Int) : readB [] c = (Fr.zero, 0, 2) := by
  rw [readB_head (by rw [headB_short (by simp)]; decide), headB_short (by simp)]

theorem all_enc (c : Int) : ∀ (l : List Fr) (fu : Nat), l.length < fu → (∀ f ∈ l, chk f.k f.s.size c = 0) → allF fu (encL l) c = (l, (encL l).length, 0)
  | [], fu + 1, _, _ => by
    rw [allF_form (by rw [show encL [] = [] from rfl, readB_none])]
    rfl
  | f :: l, fu + 1, hf, hg => by
    have hr := read_enc (hg f (by simp)) (encL l)
    have e : encL (f :: l) = encB ⟨f.k, f.s⟩ ++ encL l := rfl
    have ht : (3 + (f.s.size : Int)).toNat = (encB ⟨f.k, f.s⟩).length := by rw [encB_length]; show _ = 3 + f.s.size; omega
    rw [e, allF_step (by rw [hr]), hr]
    show ((⟨f.k, f.s⟩ : Fr) :: (allF fu ((encB ⟨f.k, f.s⟩ ++ encL l).drop (3 + (f.s.size : Int)).toNat) c).1, (3 + (f.s.size : Int)).toNat + (allF fu ((encB ⟨f.k, f.s⟩ ++ encL l).drop (3 + (f.s.size : Int)).toNat) c).2.1, (allF fu ((encB ⟨f.k, f.s⟩ ++ encL l).drop (3 + (f.s.size : Int)).toNat) c).2.2) = _
    rw [ht, List.drop_left, all_enc c l fu (by simpa using hf) (fun g hgm => hg g (by simp [hgm])), List.length_append]

theorem all_cut (c : Int) : ∀ (l : List Fr) (fu n : Nat), l.length < fu → (∀ f ∈ l, chk f.k f.s.size c = 0) →
    ∃ j, j ≤ l.length ∧ allF fu ((encL l).take n) c = (l.take j, (encL (l.take j)).length, 0) ∧ (encL (l.take j)).length ≤ n
  | [], fu + 1, n, _, _ => ⟨0, Nat.le_refl _, by
      rw [allF_form (by rw [show (encL []).take n = [] from List.take_nil, readB_none])]
      rfl, Nat.zero_le _⟩
  | f :: l, fu + 1, n, hf, hg => by
    have e : encL (f :: l) = encB ⟨f.k, f.s⟩ ++ encL l := rfl
    have hlen : (encB ⟨f.k, f.s⟩).length = 3 + f.s.size := encB_length _
    by_cases hn : n < 3 + f.s.size
    · refine ⟨0, Nat.zero_le _, ?_, Nat.zero_le _⟩
      have et : (encL (f :: l)).take n = (encB ⟨f.k, f.s⟩).take n := by
        rw [e, List.take_append_of_le_length (by omega)]
      rw [et, allF_form (read_cut (hg f (by simp)) n hn)]
      rfl
    · obtain ⟨m, rfl⟩ : ∃ m, n = (encB ⟨f.k, f.s⟩).length + m := ⟨n - (3 + f.s.size), by omega⟩
      obtain ⟨j, hj, hall, hle⟩ := all_cut c l fu m (by simpa using hf) (fun g hgm => hg g (by simp [hgm]))
      have et : (encL (f :: l)).take ((encB ⟨f.k, f.s⟩).length + m) = encB ⟨f.k, f.s⟩ ++ (encL l).take m := by
        rw [e, List.take_length_add_append]
      have hr := read_enc (hg f (by simp)) ((encL l).take m)
      have ht : (3 + (f.s.size : Int)).toNat = (encB ⟨f.k, f.s⟩).length := by rw [encB_length]; show _ = 3 + f.s.size; omega
      refine ⟨j + 1, by simpa using hj, ?_, ?_⟩
      · rw [et, allF_step (by rw [hr]), hr]
        show ((⟨f.k, f.s⟩ : Fr) :: (allF fu ((encB ⟨f.k, f.s⟩ ++ (encL l).take m).drop (3 + (f.s.size : Int)).toNat) c).1, (3 + (f.s.size : Int)).toNat + (allF fu ((encB ⟨f.k, f.s⟩ ++ (encL l).take m).drop (3 + (f.s.size : Int)).toNat) c).2.1, (allF fu ((encB ⟨f.k, f.s⟩ ++ (encL l).take m).drop (3 + (f.s.size : Int)).toNat) c).2.2) = _
        rw [ht, List.drop_left, hall, List.take_succ_cons, show encL (f :: l.take j) = encB ⟨f.k, f.s⟩ ++ encL (l.take j) from rfl, List.length_append]
      · rw [List.take_succ_cons, show encL (f :: l.take j) = encB ⟨f.k, f.s⟩ ++ encL (l.take j) from rfl, List.length_append]
        omega

end Go.Proofs.Ytbpflpngaipckaa
