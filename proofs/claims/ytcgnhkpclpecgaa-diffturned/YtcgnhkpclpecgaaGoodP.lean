/-
  Plain facts on lists that may be: those that came and those of both are the new list's names, those that went and those of both the old one's; turned round; a list and itself; joined. Condition: both lists may be.
-/
import Derived.Test.YtcgnhkpclpecgaaJoin
namespace Go.Proofs.Ytcgnhkpclpecgaa

theorem mem_pick {l m : List ByteArray} {b : Bool} {x : ByteArray} : x ∈ pickL l m b ↔ x ∈ l ∧ hasB m x = b := by
  unfold pickL
  rw [List.mem_filter]
  simp
theorem pick_nodup {l m : List ByteArray} {b : Bool} (h : l.Nodup) : (pickL l m b).Nodup := List.Pairwise.sublist List.filter_sublist h
theorem chk_parts {l : List ByteArray} (h : chk l = 0) : l.length ≤ 16 ∧ l.all nameB = true ∧ l.Nodup := by
  unfold chk at h
  by_cases h1 : 16 < l.length
  · rw [if_pos h1] at h; cases h
  · rw [if_neg h1] at h
    by_cases h2 : l.all nameB = true
    · rw [if_pos h2] at h
      by_cases h3 : l.Nodup
      · exact ⟨by omega, h2, h3⟩
      · rw [if_neg h3] at h; cases h
    · rw [if_neg h2] at h; cases h
theorem chk_mk {l : List ByteArray} (h1 : l.length ≤ 16) (h2 : l.all nameB = true) (h3 : l.Nodup) : chk l = 0 := chk_good (by omega) h2 h3

theorem split_len (l m : List ByteArray) : (pickL l m false).length + (pickL l m true).length = l.length := by
  unfold pickL
  induction l with
  | nil => rfl
  | cons x l ih =>
    rw [List.filter_cons, List.filter_cons]
    cases hasB m x
    · rw [if_pos (by decide), if_neg (by decide), List.length_cons, List.length_cons]
      omega
    · rw [if_neg (by decide), if_pos (by decide), List.length_cons, List.length_cons]
      omega

/-- Those of both, seen from either list, are as many. -/
theorem both_len {l m : List ByteArray} (hl : l.Nodup) (hm : m.Nodup) : (pickL l m true).length = (pickL m l true).length := by
  have hp : (pickL l m true).Perm (pickL m l true) := by
    rw [List.perm_ext_iff_of_nodup (pick_nodup hl) (pick_nodup hm)]
    intro x
    rw [mem_pick, mem_pick, hasB_iff, hasB_iff]
    exact ⟨fun h => ⟨h.2, h.1⟩, fun h => ⟨h.2, h.1⟩⟩
  exact hp.length_eq
theorem pick_self_true (l : List ByteArray) : pickL l l true = l := by
  unfold pickL
  rw [List.filter_eq_self]
  intro x hx
  simp [hasB_iff.2 hx]
theorem pick_self_false (l : List ByteArray) : pickL l l false = [] := by
  unfold pickL
  rw [List.filter_eq_nil_iff]
  intro x hx
  simp [hasB_iff.2 hx]

section
variable {o n : List ByteArray}
theorem came_eq (h1 : chk o = 0) (h2 : chk n = 0) : cameL o n = pickL n o false := by unfold cameL; rw [may_both h1 h2]; rfl
theorem went_eq (h1 : chk o = 0) (h2 : chk n = 0) : wentL o n = pickL o n false := by unfold wentL; rw [may_both h1 h2]; rfl
theorem both_eq (h1 : chk o = 0) (h2 : chk n = 0) : bothL o n = pickL o n true := by unfold bothL; rw [may_both h1 h2]; rfl
theorem join_eq (h1 : chk o = 0) (h2 : chk n = 0) : joinL o n = pickL o n true ++ pickL n o false := by unfold joinL; rw [may_both h1 h2]; rfl

theorem new_len (h1 : chk o = 0) (h2 : chk n = 0) : (cameL o n).length + (bothL o n).length = n.length := by
  rw [came_eq h1 h2, both_eq h1 h2, both_len (chk_parts h1).2.2 (chk_parts h2).2.2, split_len]
theorem old_len (h1 : chk o = 0) (h2 : chk n = 0) : (wentL o n).length + (bothL o n).length = o.length := by
  rw [went_eq h1 h2, both_eq h1 h2, split_len]
theorem joined_len (h1 : chk o = 0) (h2 : chk n = 0) : (joinL o n).length = n.length := by
  rw [join_eq h1 h2, List.length_append, both_len (chk_parts h1).2.2 (chk_parts h2).2.2]
  have := split_len n o
  omega
theorem join_self (h1 : chk o = 0) : joinL o o = o := by rw [join_eq h1 h1, pick_self_true, pick_self_false, List.append_nil]
theorem mem_join (h1 : chk o = 0) (h2 : chk n = 0) {x : ByteArray} : x ∈ joinL o n ↔ x ∈ n := by
  rw [join_eq h1 h2, List.mem_append, mem_pick, mem_pick, hasB_iff, hasB_not]
  constructor
  · rintro (h | h)
    · exact h.2
    · exact h.1
  · intro h
    by_cases hx : x ∈ o
    · exact .inl ⟨hx, h⟩
    · exact .inr ⟨h, hx⟩
theorem join_chk (h1 : chk o = 0) (h2 : chk n = 0) : chk (joinL o n) = 0 := by
  obtain ⟨n1, n2, n3⟩ := chk_parts h2
  refine chk_mk (by rw [joined_len h1 h2]; exact n1) ?_ ?_
  · rw [List.all_eq_true]
    intro x hx
    exact List.all_eq_true.1 n2 x ((mem_join h1 h2).1 hx)
  · rw [join_eq h1 h2]
    refine List.pairwise_append.2 ⟨pick_nodup (chk_parts h1).2.2, pick_nodup n3, fun a ha b hb e => ?_⟩
    subst e
    exact hasB_not.1 (mem_pick.1 hb).2 (mem_pick.1 ha).1
theorem in_one (h1 : chk o = 0) (h2 : chk n = 0) {x : ByteArray} (hx : x ∈ n) : hasB (bothL o n) x = !hasB (cameL o n) x := by
  rw [came_eq h1 h2, both_eq h1 h2]
  by_cases ho : x ∈ o
  · rw [hasB_iff.2 (mem_pick.2 ⟨ho, hasB_iff.2 hx⟩), hasB_not.2 (fun h => by rw [mem_pick, hasB_not] at h; exact h.2 ho)]
    rfl
  · rw [hasB_not.2 (fun h => by rw [mem_pick] at h; exact ho h.1), hasB_iff.2 (mem_pick.2 ⟨hx, hasB_not.2 ho⟩)]
    rfl
theorem in_join (h1 : chk o = 0) (h2 : chk n = 0) {x : ByteArray} (hx : x ∈ n) : hasB (joinL o n) x = true := hasB_iff.2 ((mem_join h1 h2).2 hx)
theorem in_went (h1 : chk o = 0) (h2 : chk n = 0) {x : ByteArray} (hx : x ∈ wentL o n) : hasB n x = false ∧ hasB o x = true := by
  rw [went_eq h1 h2, mem_pick] at hx
  exact ⟨hx.2, hasB_iff.2 hx.1⟩

/-- Turned round. -/
theorem turned_came (h1 : chk o = 0) (h2 : chk n = 0) : wentL n o = cameL o n := by rw [went_eq h2 h1, came_eq h1 h2]
theorem turned_went (h1 : chk o = 0) (h2 : chk n = 0) : cameL n o = wentL o n := by rw [came_eq h2 h1, went_eq h1 h2]
theorem turned_both (h1 : chk o = 0) (h2 : chk n = 0) : (bothL n o).length = (bothL o n).length := by rw [both_eq h2 h1, both_eq h1 h2, both_len (chk_parts h2).2.2 (chk_parts h1).2.2]
theorem self_came (h1 : chk o = 0) : cameL o o = [] := by rw [came_eq h1 h1, pick_self_false]
theorem self_went (h1 : chk o = 0) : wentL o o = [] := by rw [went_eq h1 h1, pick_self_false]
theorem self_both (h1 : chk o = 0) : bothL o o = o := by rw [both_eq h1 h1, pick_self_true]
theorem chk_nil : chk [] = 0 := by decide +kernel
theorem pick_nil_false (l : List ByteArray) : pickL l [] false = l := by
  unfold pickL
  rw [List.filter_eq_self]
  intro x _
  rfl
theorem pick_nil_true (l : List ByteArray) : pickL l [] true = [] := by
  unfold pickL
  rw [List.filter_eq_nil_iff]
  intro x _
  simp [hasB]
theorem join_nil (h1 : chk o = 0) : joinL [] o = o := by
  rw [join_eq chk_nil h1, pick_nil_false]
  rfl
theorem join_to_nil (h1 : chk o = 0) : joinL o [] = [] := by
  rw [join_eq h1 chk_nil, pick_nil_true]
  rfl
end

/-- The names of Good, and its list: each once. -/
def names6 : List ByteArray := [⟨#[104, 48]⟩, ⟨#[104, 49]⟩, ⟨#[104, 50]⟩, ⟨#[104, 51]⟩, ⟨#[104, 52]⟩, ⟨#[104, 53]⟩]
theorem names6_ok : ∀ s ∈ names6, nameB s = true := by decide +kernel
theorem names6_at (k : Nat) (h : k < 6) : names6.getD k ⟨#[]⟩ ∈ names6 := getD_mem h
/-- A list of Good's names, each once, may be. -/
theorem good_len {l : List ByteArray} (h : l.Nodup) (hs : ∀ s ∈ l, s ∈ names6) : l.length ≤ 6 := by
  have e : pickL l names6 true = l := by
    unfold pickL
    rw [List.filter_eq_self]
    intro x hx
    simp [hasB_iff.2 (hs x hx)]
  have h6 : names6.Nodup := by decide +kernel
  have := both_len h h6
  rw [e] at this
  have h7 := pickL_len names6 l true
  have h8 : names6.length = 6 := rfl
  omega
theorem good_chk {l : List ByteArray} (h : l.Nodup) (hs : ∀ s ∈ l, s ∈ names6) : chk l = 0 := by
  refine chk_mk (by have := good_len h hs; omega) ?_ h
  rw [List.all_eq_true]
  intro x hx
  exact names6_ok x (hs x hx)

end Go.Proofs.Ytcgnhkpclpecgaa
