/-
  Keys and deadlines as a list that rises by keys, in plain mathematics: how one is set, struck, found; who is due; the row by deadlines. No conditions.
-/
import Derived.Test.YtahdeliopmkpmaaKeysW
namespace Go.Proofs.Ytahdeliopmkpmaa

def Ris (R : List (Int × Int)) : Prop := R.Pairwise (fun x y => x.1 < y.1)
def hasR (R : List (Int × Int)) (k : Int) : Bool := R.any (fun x => x.1 == k)
def getR (R : List (Int × Int)) (k : Int) : Int := ((R.find? (fun x => x.1 == k)).map (fun x => x.2)).getD 0
def delR (R : List (Int × Int)) (k : Int) : List (Int × Int) := R.filter (fun x => !(x.1 == k))
def insR : List (Int × Int) → Int → Int → List (Int × Int)
  | [], k, a => [(k, a)]
  | x :: r, k, a => if k < x.1 then (k, a) :: x :: r else x :: insR r k a
def setR (R : List (Int × Int)) (k a : Int) : List (Int × Int) := insR (delR R k) k a
def leK (x y : Int × Int) : Bool := decide (x.2 < y.2 ∨ (x.2 = y.2 ∧ x.1 ≤ y.1))
def ordR (R : List (Int × Int)) : List (Int × Int) := R.mergeSort leK
def keysR (R : List (Int × Int)) : List Int := (ordR R).map (fun x => x.1)
def dueR (R : List (Int × Int)) (now : Int) : List (Int × Int) := R.filter (fun x => past now x.2)
def restR (R : List (Int × Int)) (now : Int) : List (Int × Int) := R.filter (fun x => !past now x.2)

theorem hasR_iff {R : List (Int × Int)} {k : Int} : hasR R k = true ↔ ∃ a, (k, a) ∈ R := by
  unfold hasR
  rw [List.any_eq_true]
  constructor
  · rintro ⟨x, hx, hk⟩
    simp at hk
    exact ⟨x.2, by rw [← hk]; exact hx⟩
  · rintro ⟨a, ha⟩
    exact ⟨_, ha, by simp⟩
theorem hasR_not {R : List (Int × Int)} {k : Int} : hasR R k = false ↔ ∀ x ∈ R, x.1 ≠ k := by
  unfold hasR
  rw [List.any_eq_false]
  simp

theorem hasR_perm {R R' : List (Int × Int)} (h : R.Perm R') (k : Int) : hasR R k = hasR R' k := by
  cases h1 : hasR R' k with
  | true => exact hasR_iff.2 (by obtain ⟨a, ha⟩ := hasR_iff.1 h1; exact ⟨a, h.mem_iff.2 ha⟩)
  | false => exact hasR_not.2 (fun x hx => hasR_not.1 h1 x (h.mem_iff.1 hx))

theorem insR_perm : ∀ (R : List (Int × Int)) (k a : Int), (insR R k a).Perm ((k, a) :: R)
  | [], _, _ => List.Perm.refl _
  | x :: r, k, a => by
    unfold insR
    split
    · exact List.Perm.refl _
    · exact ((insR_perm r k a).cons x).trans (List.Perm.swap _ _ _)

theorem insR_ris : ∀ {R : List (Int × Int)} {k a : Int}, Ris R → (∀ x ∈ R, x.1 ≠ k) → Ris (insR R k a)
  | [], _, _, _, _ => List.pairwise_singleton _ _
  | x :: r, k, a, h, hn => by
    unfold Ris at h
    obtain ⟨h1, h2⟩ := List.pairwise_cons.1 h
    have hx := hn x (by simp)
    unfold insR
    split
    · rename_i hlt
      refine List.pairwise_cons.2 ⟨fun y hy => ?_, h⟩
      rcases List.mem_cons.1 hy with rfl | hy
      · exact hlt
      · have := h1 y hy
        show k < y.1
        omega
    · rename_i hlt
      refine List.pairwise_cons.2 ⟨fun y hy => ?_, insR_ris h2 (fun y hy => hn y (by simp [hy]))⟩
      rcases List.mem_cons.1 ((insR_perm r k a).mem_iff.1 hy) with rfl | hy
      · show x.1 < k
        omega
      · exact h1 y hy

theorem delR_ris {R : List (Int × Int)} (h : Ris R) (k : Int) : Ris (delR R k) := List.Pairwise.filter _ h
theorem delR_not (R : List (Int × Int)) (k : Int) : ∀ x ∈ delR R k, x.1 ≠ k := by
  intro x hx
  have := (List.mem_filter.1 hx).2
  simpa using this
theorem setR_ris {R : List (Int × Int)} (h : Ris R) (k a : Int) : Ris (setR R k a) := insR_ris (delR_ris h k) (delR_not R k)
theorem restR_ris {R : List (Int × Int)} (h : Ris R) (now : Int) : Ris (restR R now) := List.Pairwise.filter _ h
theorem dueR_ris {R : List (Int × Int)} (h : Ris R) (now : Int) : Ris (dueR R now) := List.Pairwise.filter _ h

theorem ris_uniq {R : List (Int × Int)} (h : Ris R) {x y : Int × Int} (hx : x ∈ R) (hy : y ∈ R) (e : x.1 = y.1) : x = y := by
  induction R with
  | nil => simp at hx
  | cons z r ih =>
    obtain ⟨h1, h2⟩ := List.pairwise_cons.1 h
    rcases List.mem_cons.1 hx with hx1 | hx1
    · rcases List.mem_cons.1 hy with hy1 | hy1
      · rw [hx1, hy1]
      · have := h1 y hy1; rw [← hx1] at this; omega
    · rcases List.mem_cons.1 hy with hy1 | hy1
      · have := h1 x hx1; rw [← hy1] at this; omega
      · exact ih h2 hx1 hy1

theorem getR_mem {R : List (Int × Int)} (h : Ris R) {k a : Int} (hm : (k, a) ∈ R) : getR R k = a := by
  unfold getR
  cases hf : R.find? (fun x => x.1 == k) with
  | none =>
    have := List.find?_eq_none.1 hf _ hm
    simp at this
  | some x =>
    have h1 := List.find?_some hf
    have h2 := List.mem_of_find?_eq_some hf
    simp at h1
    have := ris_uniq h h2 hm h1
    rw [this]
    rfl
theorem getR_not {R : List (Int × Int)} {k : Int} (h : hasR R k = false) : getR R k = 0 := by
  unfold getR
  have : R.find? (fun x => x.1 == k) = none := by
    rw [List.find?_eq_none]
    intro x hx
    simpa using hasR_not.1 h x hx
  rw [this]
  rfl

theorem leK_trans (x y z : Int × Int) (h1 : leK x y = true) (h2 : leK y z = true) : leK x z = true := by
  unfold leK at *
  simp only [decide_eq_true_eq] at *
  omega
theorem leK_total (x y : Int × Int) : (leK x y || leK y x) = true := by
  unfold leK
  simp only [Bool.or_eq_true, decide_eq_true_eq]
  omega
theorem leK_anti {x y : Int × Int} (h1 : leK x y = true) (h2 : leK y x = true) : x = y := by
  unfold leK at *
  simp only [decide_eq_true_eq] at *
  apply Prod.ext
  · omega
  · omega
theorem ordR_perm (R : List (Int × Int)) : (ordR R).Perm R := List.mergeSort_perm _ _
theorem ordR_sorted (R : List (Int × Int)) : (ordR R).Pairwise (fun x y => leK x y = true) := List.pairwise_mergeSort leK_trans leK_total R
/-- The row by deadlines is the only one. -/
theorem ordR_uniq {R S : List (Int × Int)} (hp : S.Perm R) (hs : S.Pairwise (fun x y => leK x y = true)) : ordR R = S :=
  ((ordR_perm R).trans hp.symm).eq_of_pairwise (fun _ _ _ _ h1 h2 => leK_anti h1 h2) (ordR_sorted R) hs
theorem ordR_of_perm {R S : List (Int × Int)} (hp : S.Perm R) : ordR R = ordR S := ordR_uniq ((ordR_perm S).trans hp) (ordR_sorted S)

/-- Rising keys are sorted. -/
theorem srt_of {zs : List Int} {R : List (Int × Int)} (h : Ris R) (hp : zs.Perm (R.map (fun x => x.1))) : srt zs = R.map (fun x => x.1) := by
  unfold srt
  have h1 : (R.map (fun x => x.1)).Pairwise (fun x y => decide (x ≤ y) = true) := by
    rw [List.pairwise_map]
    exact h.imp (fun hlt => by simp; omega)
  exact ((List.mergeSort_perm zs _).trans hp).eq_of_pairwise (fun a b _ _ h1 h2 => by simp at h1 h2; omega) (List.pairwise_mergeSort (fun a b c h1 h2 => by simp at *; omega) (fun a b => by simp; omega) zs) h1

/-- An entry's key and deadline. -/
def ka (e : Ent) : Int × Int := (e.k, e.a)
theorem leE_ka (x y : Ent) : leE x y = leK (ka x) (ka y) := by
  unfold leE ltE leK ka
  by_cases h : y.a < x.a ∨ (y.a = x.a ∧ y.k < x.k)
  · rw [decide_eq_true h, eq_comm]
    simp only [Bool.not_true, decide_eq_false_iff_not]
    omega
  · rw [decide_eq_false h, eq_comm]
    simp only [Bool.not_false, decide_eq_true_eq]
    omega

theorem ordE_ka (L : List Ent) : (ordE L).map ka = ordR (L.map ka) := by
  unfold ordE ordR
  exact List.map_mergeSort (fun a _ b _ => leE_ka a b)

theorem keysE {L : List Ent} {R : List (Int × Int)} (hp : (L.map ka).Perm R) : (ordE L).map Ent.k = keysR R := by
  unfold keysR
  rw [ordR_of_perm hp, ← ordE_ka, List.map_map]
  rfl

/-- One taken out. -/
theorem del_of {X R : List (Int × Int)} {k a : Int} (hp : ((k, a) :: X).Perm R) (hn : ∀ x ∈ X, x.1 ≠ k) : X.Perm (delR R k) := by
  have h1 := hp.filter (fun x => !(x.1 == k))
  rw [List.filter_cons_of_neg (by simp), List.filter_eq_self.2 (fun x hx => by simpa using hn x hx)] at h1
  exact h1

theorem split_at {L : List Ent} {i : Nat} (hi : i < L.length) (a : Int) : ∃ Lr, (nth L i :: Lr).Perm L ∧ ((⟨(nth L i).b, (nth L i).k, a⟩ : Ent) :: Lr).Perm (upd L i a) := by
  refine ⟨L.take i ++ L.drop (i + 1), ?_, ?_⟩
  · have h1 : L = L.take i ++ nth L i :: L.drop (i + 1) := by
      rw [nth_eq hi, ← List.drop_eq_getElem_cons hi, List.take_append_drop]
    conv => rhs; rw [h1]
    exact List.perm_middle.symm
  · have h1 : upd L i a = L.take i ++ (⟨(nth L i).b, (nth L i).k, a⟩ : Ent) :: L.drop (i + 1) := by
      unfold upd
      rw [List.set_eq_take_append_cons_drop, if_pos hi]
    rw [h1]
    exact List.perm_middle.symm

end Go.Proofs.Ytahdeliopmkpmaa
