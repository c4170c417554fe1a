/-
  Plain mathematics: bytes that come in two pieces tell what they tell in one; the first pieces of frames' bytes tell frames and no error; a bad head behind frames tells them, and its error. No conditions but those that are said: the frames may be, under the cap.
-/
import Derived.Test.YtbpflpngaipckaaGoodR
import Derived.Test.YtbpflpngaipckaaJoin
namespace Go.Proofs.Ytbpflpngaipckaa

/-- How many frames there are: no more than bytes. -/
theorem allF_count (c : Int) : ∀ (fu : Nat) (bs : List UInt8), (allF fu bs c).1.length ≤ (allF fu bs c).2.1
  | 0, _ => Nat.le_refl _
  | fu + 1, bs => by
    have hb := readB_bd bs c
    by_cases h2 : (readB bs c).2.2 = 2
    · rw [allF_form h2]; exact Nat.le_refl _
    · by_cases h0 : (readB bs c).2.2 = 0
      · rw [allF_step h0]
        have := allF_count c fu (bs.drop (readB bs c).2.1.toNat)
        have h3 := hb.2.2.2.2 h0
        show ((readB bs c).1 :: (allF fu (bs.drop (readB bs c).2.1.toNat) c).1).length ≤ (readB bs c).2.1.toNat + (allF fu (bs.drop (readB bs c).2.1.toNat) c).2.1
        rw [List.length_cons]
        omega
      · rw [allF_bad h2 h0]; exact Nat.le_refl _
theorem allB_count (bs : List UInt8) (c : Int) : (allB bs c).1.length ≤ bs.length := Nat.le_trans (allF_count c _ bs) (allB_le bs c)
theorem feedB_count (c : Int) (r : Rd) (b : List UInt8) : (feedB c r b).2.length ≤ r.h.length + b.length := by
  have := allB_count (r.h ++ b) c
  rw [List.length_append] at this
  by_cases h : r.e = 0
  · by_cases h2 : (allB (r.h ++ b) c).2.2 = 0
    · rw [feedB_ok h h2]; exact this
    · rw [feedB_bad h h2]; exact this
  · rw [feedB_err h]; exact Nat.zero_le _

theorem readB_app {bs y : List UInt8} {c : Int} (h : (readB bs c).2.2 ≠ 2) : readB (bs ++ y) c = readB bs c := by
  rcases headB_cases bs c with ⟨h0, _, _, _, _⟩ | ⟨h0, _, _, h1, _, h3⟩
  · have h3 : 3 ≤ bs.length := by
      by_cases h3 : 3 ≤ bs.length
      · exact h3
      · exfalso
        rw [readB_head h0, headB_short (by omega)] at h
        exact h rfl
    rw [readB_head h0, readB_head (by rw [headB_app h3]; exact h0), headB_app h3]
  · by_cases hl : (bs.length : Int) < 3 + (headB bs c).2.1
    · rw [readB_part h0 hl] at h
      exact absurd rfl h
    · rw [readB_ok h0 (by omega), readB_ok (by rw [headB_app h3]; exact h0) (by rw [headB_app h3, List.length_append]; omega), headB_app h3]
      have e : ((bs ++ y).drop 3).take (headB bs c).2.1.toNat = (bs.drop 3).take (headB bs c).2.1.toNat := by
        rw [List.drop_append_of_le_length h3, List.take_append_of_le_length (by rw [List.length_drop]; omega)]
      rw [e]

theorem allF_fuel (c : Int) : ∀ (fu fu' : Nat) (bs : List UInt8), bs.length < fu → bs.length < fu' → allF fu bs c = allF fu' bs c
  | 0, _, _, h, _ => absurd h (Nat.not_lt_zero _)
  | _ + 1, 0, _, _, h => absurd h (Nat.not_lt_zero _)
  | fu + 1, fu' + 1, bs, h, h' => by
    have hb := readB_bd bs c
    by_cases h2 : (readB bs c).2.2 = 2
    · rw [allF_form h2, allF_form h2]
    · by_cases h0 : (readB bs c).2.2 = 0
      · have h3 := hb.2.2.2.2 h0
        rw [allF_step h0, allF_step h0, allF_fuel c fu fu' (bs.drop (readB bs c).2.1.toNat) (by rw [List.length_drop]; omega) (by rw [List.length_drop]; omega)]
      · rw [allF_bad h2 h0, allF_bad h2 h0]

theorem allF_app_bad (c : Int) : ∀ (fu fu' : Nat) (bs y : List UInt8), bs.length < fu → (bs ++ y).length < fu' → (allF fu bs c).2.2 ≠ 0 → allF fu' (bs ++ y) c = allF fu bs c
  | 0, _, _, _, h, _, _ => absurd h (Nat.not_lt_zero _)
  | _ + 1, 0, _, _, _, h, _ => absurd h (Nat.not_lt_zero _)
  | fu + 1, fu' + 1, bs, y, h, h', he => by
    have hb := readB_bd bs c
    by_cases h2 : (readB bs c).2.2 = 2
    · rw [allF_form h2] at he
      exact absurd rfl he
    · have hr := readB_app (y := y) h2
      by_cases h0 : (readB bs c).2.2 = 0
      · have h3 := hb.2.2.2.2 h0
        have hd : (bs ++ y).drop (readB bs c).2.1.toNat = bs.drop (readB bs c).2.1.toNat ++ y := List.drop_append_of_le_length (by omega)
        rw [allF_step h0] at he
        have ih := allF_app_bad c fu fu' (bs.drop (readB bs c).2.1.toNat) y (by rw [List.length_drop]; omega) (by rw [List.length_append] at h' ⊢; rw [List.length_drop]; omega) he
        rw [allF_step (by rw [hr]; exact h0), allF_step h0, hr, hd, ih]
      · rw [allF_bad (by rw [hr]; exact h2) (by rw [hr]; exact h0), allF_bad h2 h0, hr]

theorem allF_app_ok (c : Int) : ∀ (fu fu' : Nat) (bs y : List UInt8), bs.length < fu → (bs ++ y).length < fu' → (allF fu bs c).2.2 = 0 →
    allF fu' (bs ++ y) c = ((allF fu bs c).1 ++ (allB (bs.drop (allF fu bs c).2.1 ++ y) c).1, (allF fu bs c).2.1 + (allB (bs.drop (allF fu bs c).2.1 ++ y) c).2.1, (allB (bs.drop (allF fu bs c).2.1 ++ y) c).2.2)
  | 0, _, _, _, h, _, _ => absurd h (Nat.not_lt_zero _)
  | _ + 1, 0, _, _, _, h, _ => absurd h (Nat.not_lt_zero _)
  | fu + 1, fu' + 1, bs, y, h, h', he => by
    have hb := readB_bd bs c
    by_cases h2 : (readB bs c).2.2 = 2
    · rw [allF_form h2]
      show allF (fu' + 1) (bs ++ y) c = ([] ++ (allB (bs.drop 0 ++ y) c).1, 0 + (allB (bs.drop 0 ++ y) c).2.1, (allB (bs.drop 0 ++ y) c).2.2)
      rw [List.drop_zero, List.nil_append, Nat.zero_add]
      exact allF_fuel c _ _ _ h' (Nat.lt_succ_self _)
    · have hr := readB_app (y := y) h2
      by_cases h0 : (readB bs c).2.2 = 0
      · have h3 := hb.2.2.2.2 h0
        have hd : (bs ++ y).drop (readB bs c).2.1.toNat = bs.drop (readB bs c).2.1.toNat ++ y := List.drop_append_of_le_length (by omega)
        rw [allF_step h0] at he
        have ih := allF_app_ok c fu fu' (bs.drop (readB bs c).2.1.toNat) y (by rw [List.length_drop]; omega) (by rw [List.length_append] at h' ⊢; rw [List.length_drop]; omega) he
        rw [allF_step (by rw [hr]; exact h0), allF_step h0, hr, hd, ih, List.drop_drop]
        simp [Nat.add_assoc]
      · rw [allF_bad h2 h0] at he
        exact absurd he h0

theorem allB_app_bad {bs : List UInt8} {c : Int} (y : List UInt8) (h : (allB bs c).2.2 ≠ 0) : allB (bs ++ y) c = allB bs c :=
  allF_app_bad c _ _ bs y (Nat.lt_succ_self _) (Nat.lt_succ_self _) h
theorem allB_app_ok {bs : List UInt8} {c : Int} (y : List UInt8) (h : (allB bs c).2.2 = 0) :
    allB (bs ++ y) c = ((allB bs c).1 ++ (allB (bs.drop (allB bs c).2.1 ++ y) c).1, (allB bs c).2.1 + (allB (bs.drop (allB bs c).2.1 ++ y) c).2.1, (allB (bs.drop (allB bs c).2.1 ++ y) c).2.2) :=
  allF_app_ok c _ _ bs y (Nat.lt_succ_self _) (Nat.lt_succ_self _) h

theorem feedB_ok' {c : Int} {h b : List UInt8} {l : List Fr} {n : Nat} (ha : allB (h ++ b) c = (l, n, 0)) : feedB c ⟨h, 0⟩ b = (⟨(h ++ b).drop n, 0⟩, l) := by
  rw [feedB_ok (r := ⟨h, 0⟩) (b := b) (c := c) (by rfl) (by rw [ha]), ha]
theorem feedB_bad' {c : Int} {h b : List UInt8} {l : List Fr} {n : Nat} {e : Int} (ha : allB (h ++ b) c = (l, n, e)) (he : e ≠ 0) : feedB c ⟨h, 0⟩ b = (⟨[], e⟩, l) := by
  rw [feedB_bad (r := ⟨h, 0⟩) (b := b) (c := c) (by rfl) (by rw [ha]; exact he), ha]
theorem feedB_err' {c : Int} {h b : List UInt8} {e : Int} (he : e ≠ 0) : feedB c ⟨h, e⟩ b = (⟨h, e⟩, []) := feedB_err (r := ⟨h, e⟩) he

/-- In two pieces as in one. -/
theorem feedB_app (c : Int) (r : Rd) (x y : List UInt8) : feedB c r (x ++ y) = ((feedB c (feedB c r x).1 y).1, (feedB c r x).2 ++ (feedB c (feedB c r x).1 y).2) := by
  obtain ⟨h, e⟩ := r
  by_cases he : e = 0
  · subst he
    have e1 : h ++ (x ++ y) = (h ++ x) ++ y := by rw [List.append_assoc]
    obtain ⟨l, n, e, hA⟩ : ∃ l n e, allB (h ++ x) c = (l, n, e) := ⟨_, _, _, rfl⟩
    have hle := allB_le (h ++ x) c
    rw [hA] at hle
    by_cases h2 : e = 0
    · subst h2
      have ha := allB_app_ok (bs := h ++ x) (c := c) y (by rw [hA])
      rw [hA] at ha
      obtain ⟨l2, n2, e2, hB⟩ : ∃ l2 n2 e2, allB ((h ++ x).drop n ++ y) c = (l2, n2, e2) := ⟨_, _, _, rfl⟩
      have ha' : allB (h ++ (x ++ y)) c = (l ++ l2, n + n2, e2) := by rw [e1, ha]; show (l ++ (allB ((h ++ x).drop n ++ y) c).1, n + (allB ((h ++ x).drop n ++ y) c).2.1, (allB ((h ++ x).drop n ++ y) c).2.2) = _; rw [hB]
      rw [feedB_ok' hA]
      show feedB c ⟨h, 0⟩ (x ++ y) = ((feedB c ⟨(h ++ x).drop n, 0⟩ y).1, l ++ (feedB c ⟨(h ++ x).drop n, 0⟩ y).2)
      by_cases h3 : e2 = 0
      · subst h3
        rw [feedB_ok' ha', feedB_ok' hB, e1, ← List.drop_drop, List.drop_append_of_le_length hle]
      · rw [feedB_bad' ha' h3, feedB_bad' hB h3]
    · have ha := allB_app_bad (bs := h ++ x) (c := c) y (by rw [hA]; exact h2)
      have ha' : allB (h ++ (x ++ y)) c = (l, n, e) := by rw [e1, ha, hA]
      rw [feedB_bad' hA h2, feedB_bad' ha' h2, feedB_err' h2, List.append_nil]
  · rw [feedB_err' (b := x) he, feedB_err' he, feedB_err' he, List.append_nil]

theorem feedB_none (c : Int) : feedB c ⟨[], 0⟩ [] = (⟨[], 0⟩, []) := by
  have h := allB_none (bs := []) (c := c) (by rw [readB_none])
  rw [feedB_ok rfl (by show (allB [] c).2.2 = 0; rw [h])]
  show (Rd.mk (([] : List UInt8).drop _) 0, (allB [] c).1) = _
  rw [h, List.drop_nil]

/-- Behind k pieces: one more. -/
theorem feed_snoc {c : Int} {ps : List ByteArray} {k : Nat} {r : Rd} {gl : List Fr} (h : feedB c ⟨[], 0⟩ (joinB (ps.take k)) = (r, gl)) (hk : k < ps.length) :
    feedB c ⟨[], 0⟩ (joinB (ps.take (k + 1))) = ((feedB c r (ps.getD k ⟨#[]⟩).data.toList).1, gl ++ (feedB c r (ps.getD k ⟨#[]⟩).data.toList).2) := by
  rw [joinB_snoc ps k hk, feedB_app, h]
theorem feed_len {c : Int} {b : List UInt8} {r : Rd} {gl : List Fr} (h : feedB c ⟨[], 0⟩ b = (r, gl)) : r.h.length ≤ b.length ∧ gl.length ≤ b.length := by
  have h1 := feedB_len c ⟨[], 0⟩ b
  have h2 := feedB_count c ⟨[], 0⟩ b
  rw [h] at h1 h2
  simpa using And.intro h1 h2

/-- The bytes of frames, cut anywhere: no error. -/
theorem feed_cut {c : Int} {l : List Fr} (h : ∀ f ∈ l, chk f.k f.s.size c = 0) (n : Nat) : (feedB c ⟨[], 0⟩ ((encL l).take n)).1.e = 0 := by
  obtain ⟨j, _, hall, _⟩ := cut_all c l n h
  rw [feedB_ok rfl (by show (allB ((encL l).take n) c).2.2 = 0; rw [hall])]
/-- The bytes of frames, whole. -/
theorem feed_whole {c : Int} {l : List Fr} (h : ∀ f ∈ l, chk f.k f.s.size c = 0) : feedB c ⟨[], 0⟩ (encL l) = (⟨[], 0⟩, l) := by
  have hall := whole_all c l h
  rw [feedB_ok rfl (by show (allB (encL l) c).2.2 = 0; rw [hall])]
  show (Rd.mk ((encL l).drop (allB (encL l) c).2.1) 0, (allB (encL l) c).1) = _
  rw [hall, List.drop_of_length_le (Nat.le_refl _)]
/-- A bad head behind them. -/
theorem feed_after {l : List Fr} (h : ∀ f ∈ l, chk f.k f.s.size 40 = 0) : feedB 40 ⟨[], 0⟩ (encL l ++ [9, 0, 0]) = (⟨[], 4⟩, l) := by
  rw [feedB_app, feed_whole h]
  have e1 : (feedB 40 ⟨[], 0⟩ [9, 0, 0]).1 = ⟨[], 4⟩ := by kernel_rfl
  have e2 : (feedB 40 ⟨[], 0⟩ [9, 0, 0]).2 = [] := List.eq_nil_of_length_eq_zero (by decide)
  show ((feedB 40 ⟨[], 0⟩ [9, 0, 0]).1, l ++ (feedB 40 ⟨[], 0⟩ [9, 0, 0]).2) = _
  rw [e1, e2, List.append_nil]
theorem joinB_prefix (ps : List ByteArray) (k : Nat) : joinB (ps.take k) = (joinB ps).take (joinB (ps.take k)).length := by
  conv => rhs; rw [← List.take_append_drop k ps, joinB_append, List.take_append_drop]
  exact (List.take_left).symm

end Go.Proofs.Ytbpflpngaipckaa
