/-
  The row by deadlines, in plain mathematics: those that are due at the least deadline come first, by keys; the others are the row of what is left. What Same does. Conditions: slices lie where they are said to lie.
-/
import Derived.Test.YtahdeliopmkpmaaSetsW
namespace Go.Proofs.Ytahdeliopmkpmaa
open Go.ChangeShapes Go.WideShapes Go.ChangeAt Go.RowKit Go.Maps

/-- Deadlines are ticks. -/
def Ticks (R : List (Int × Int)) : Prop := ∀ x ∈ R, 0 ≤ x.2 ∧ x.2 ≤ 1099511627776

theorem past_tick {n a : Int} (h0 : 0 ≤ n) (h1 : n ≤ 1099511627776) (a0 : 0 ≤ a) (a1 : a ≤ 1099511627776) : past n a = decide (a ≤ n) := by
  unfold past
  rw [cut_mid h0 h1, cut_mid a0 a1]

theorem setR_len (R : List (Int × Int)) (k a : Int) : (setR R k a).length ≤ R.length + 1 := by
  unfold setR
  rw [(insR_perm _ _ _).length_eq, List.length_cons]
  have := List.length_filter_le (fun x : Int × Int => !(x.1 == k)) R
  unfold delR
  omega
theorem setR_ticks {R : List (Int × Int)} (h : Ticks R) (k a : Int) : Ticks (setR R k (cut a)) := by
  intro x hx
  rcases List.mem_cons.1 ((insR_perm _ _ _).mem_iff.1 hx) with rfl | hx
  · exact ⟨cut_lo a, cut_hi a⟩
  · exact h x (List.mem_filter.1 hx).1
theorem delR_ticks {R : List (Int × Int)} (h : Ticks R) (k : Int) : Ticks (delR R k) := fun x hx => h x (List.mem_filter.1 hx).1
theorem restR_ticks {R : List (Int × Int)} (h : Ticks R) (n : Int) : Ticks (restR R n) := fun x hx => h x (List.mem_filter.1 hx).1
theorem due_rest_len (R : List (Int × Int)) (n : Int) : (dueR R n).length + (restR R n).length = R.length := by
  have := (List.filter_append_perm (fun x : Int × Int => past n x.2) R).length_eq
  rw [List.length_append] at this
  exact this

theorem ord_split {R : List (Int × Int)} (h : Ris R) (ht : Ticks R) {m : Int} (h0 : 0 ≤ m) (h1 : m ≤ 1099511627776) (hmin : ∀ x ∈ R, m ≤ x.2) : ordR R = dueR R m ++ ordR (restR R m) := by
  have hd : ∀ x ∈ dueR R m, x.2 = m := fun x hx => by
    obtain ⟨hx1, hx2⟩ := List.mem_filter.1 hx
    have hb := ht x hx1
    rw [past_tick h0 h1 hb.1 hb.2] at hx2
    simp at hx2
    have := hmin x hx1
    omega
  have hr : ∀ x ∈ restR R m, m < x.2 := fun x hx => by
    obtain ⟨hx1, hx2⟩ := List.mem_filter.1 hx
    have hb := ht x hx1
    rw [past_tick h0 h1 hb.1 hb.2] at hx2
    simpa using hx2
  refine ordR_uniq (((List.Perm.refl _).append (ordR_perm _)).trans (List.filter_append_perm _ R)) ?_
  refine List.pairwise_append.2 ⟨?_, ordR_sorted _, fun x hx y hy => ?_⟩
  · refine List.Pairwise.imp_of_mem (fun {x y} hx hy hxy => ?_) (dueR_ris h m)
    have e1 := hd x hx
    have e2 := hd y hy
    unfold leK
    simp only [decide_eq_true_eq]
    omega
  · have e1 := hd x hx
    have e2 := hr y ((ordR_perm _).mem_iff.1 hy)
    unfold leK
    simp only [decide_eq_true_eq]
    omega

theorem keys_split {R : List (Int × Int)} (h : Ris R) (ht : Ticks R) {m : Int} (h0 : 0 ≤ m) (h1 : m ≤ 1099511627776) (hmin : ∀ x ∈ R, m ≤ x.2) :
    (keysR R).take (dueR R m).length = (dueR R m).map (fun x => x.1) ∧ (keysR R).drop (dueR R m).length = keysR (restR R m) := by
  unfold keysR
  rw [ord_split h ht h0 h1 hmin, List.map_append]
  constructor
  · rw [List.take_append_of_le_length (by simp), List.take_of_length_le (by simp)]
  · rw [List.drop_append_of_le_length (by simp), List.drop_of_length_le (by simp), List.nil_append]

theorem keysR_length (R : List (Int × Int)) : (keysR R).length = R.length := by unfold keysR; rw [List.length_map, (ordR_perm R).length_eq]

/-- The first of the row has the least deadline. -/
theorem first_least {R : List (Int × Int)} (h : Ris R) {m : Int} (hm : ∃ k, (k, m) ∈ R) (hmin : ∀ x ∈ R, m ≤ x.2) : hasR R ((keysR R).getD 0 0) = true ∧ getR R ((keysR R).getD 0 0) = m := by
  have hp := ordR_perm R
  have hs := ordR_sorted R
  unfold keysR
  cases ho : ordR R with
  | nil =>
    rw [ho] at hp
    obtain ⟨k, hk⟩ := hm
    have := hp.mem_iff.2 hk
    simp at this
  | cons x r =>
    rw [ho] at hp hs
    have hx : x ∈ R := hp.mem_iff.1 (by simp)
    have hx2 : x.2 = m := by
      obtain ⟨k, hk⟩ := hm
      have h1 := hmin x hx
      rcases List.mem_cons.1 (hp.mem_iff.2 hk) with e | hr
      · rw [← e]
      · have := (List.pairwise_cons.1 hs).1 _ hr
        unfold leK at this
        simp only [decide_eq_true_eq] at this
        omega
    have hg : (x.1, m) ∈ R := by rw [← hx2]; exact hx
    exact ⟨hasR_iff.2 ⟨m, hg⟩, getR_mem h hg⟩

theorem due_pos {R : List (Int × Int)} (ht : Ticks R) {m : Int} (h0 : 0 ≤ m) (h1 : m ≤ 1099511627776) (hm : ∃ k, (k, m) ∈ R) : 0 < (dueR R m).length := by
  obtain ⟨k, hk⟩ := hm
  refine List.length_pos_iff.2 (fun e => ?_)
  have : (k, m) ∈ dueR R m := List.mem_filter.2 ⟨hk, by
    have hb := ht _ hk
    rw [past_tick h0 h1 hb.1 hb.2]; simp⟩
  rw [e] at this
  simp at this

theorem ahead_none {R : List (Int × Int)} (ht : Ticks R) {m : Int} (h0 : 0 < m) (h1 : m ≤ 1099511627776) (hmin : ∀ x ∈ R, m ≤ x.2) : dueR R (m - 1) = [] ∧ restR R (m - 1) = R := by
  have hp : ∀ x ∈ R, past (m - 1) x.2 = false := fun x hx => by
    have hb := ht x hx
    rw [past_tick (by omega) (by omega) hb.1 hb.2]
    have := hmin x hx
    simp
    omega
  unfold dueR restR
  exact ⟨List.filter_eq_nil_iff.2 (fun x hx => by rw [hp x hx]; simp), List.filter_eq_self.2 (fun x hx => by rw [hp x hx]; rfl)⟩

theorem IntsAt.drop {w : World} {a : Option Addr} {len cap : Nat} {zs : List Int} (h : IntsAt w a len cap zs) {n : Nat} (hn : n ≤ len) : IntsAt w (if cap = n then a else a.map (·.add (n * 1))) (len - n) (cap - n) (zs.drop n) := by
  refine ⟨by rw [List.length_drop, h.hlen], by have := h.hle; omega, by have := h.hcap; omega, fun j hj => ?_⟩
  obtain ⟨b, off, e, hlt, hc⟩ := h.at_ (n + j) (by omega)
  have hne : cap ≠ n := by have := h.hle; omega
  have e0 : ((⟨b, off, none⟩ : Addr).add (n * 1)) = ⟨b, off + n, none⟩ := by unfold Addr.add; split <;> simp_all
  refine ⟨b, off + n, ?_, hlt, ?_⟩
  · rw [if_neg hne, e]
    simp only [Option.map_some, e0]
  · have e1 : off + n + j = off + (n + j) := by omega
    rw [e1, hc]
    simp [List.getD, List.getElem?_drop]

set_option maxRecDepth 100000 in
theorem same_any (a b : Option Addr) (len cap cap' : Nat) (zs : List Int) (w : World) (h : IntsAt w a len cap zs) (h' : IntsAt w b len cap' zs) :
    Calls Try.prog 18 #[.slice a len cap, .slice b len cap'] w fun e w' => e = .returned (.bool true) ∧ ∃ q, w' = w.drewN q := by
  have hl1 := h.hle
  have hc1 := h.hcap
  have hl2 := h'.hle
  have hc2 := h'.hcap
  unfold maxLen at hc1 hc2
  go_enter Try.func18, Try.ntmps18
  go_wp2
  go_loopw [5] (fun vi wr => ∃ (k q : Nat), k ≤ len ∧ vi = .int .i64 k ∧ wr = w.drewN q) (fun vi _ => len - (intOf vi).toNat)
  case atStart => exact ⟨0, 0, Nat.zero_le _, rfl, rfl⟩
  case round =>
    obtain ⟨k, q, hk, rfl, hwr⟩ := hrel
    subst hwr
    by_cases hlt : k < len
    · obtain ⟨b1, off1, rfl, _, c1⟩ := h.at_ k hlt
      obtain ⟨b2, off2, rfl, _, c2⟩ := h'.at_ k hlt
      generalize zs.getD k 0 = z at c1 c2
      have hkn : (k : Int) < (len : Int) := by omega
      clear h h'
      go_wp2
      go_quiet (fail)
      go_wp2
      refine ⟨⟨k + 1, _, by omega, by simp, rfl⟩, by simp [intOf]; omega⟩
    · go_wp2
      go_ret
      exact ⟨rfl, q, rfl⟩

end Go.Proofs.Ytahdeliopmkpmaa
