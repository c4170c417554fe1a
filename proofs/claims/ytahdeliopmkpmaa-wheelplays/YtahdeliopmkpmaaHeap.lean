/-
  A heap of entries, in plain mathematics: what moving one up, or down, keeps. No conditions.
-/
namespace Go.Proofs.Ytahdeliopmkpmaa

/-- An entry: its block, its key, its deadline. -/
structure Ent where
  b : Nat
  k : Int
  a : Int

def e0 : Ent := ⟨0, 0, 0⟩

/-- Ahead: by deadline, and of one deadline by key. -/
def ltE (x y : Ent) : Bool := decide (x.a < y.a ∨ (x.a = y.a ∧ x.k < y.k))
/-- Not ahead. -/
def Ge (x y : Ent) : Prop := y.a < x.a ∨ (y.a = x.a ∧ y.k ≤ x.k)

theorem ge_of_not {x y : Ent} (h : ltE x y = false) : Ge x y := by
  unfold ltE at h; unfold Ge
  simp only [decide_eq_false_iff_not] at h
  omega
theorem not_of_ge {x y : Ent} (h : Ge x y) : ltE x y = false := by
  unfold ltE; unfold Ge at h
  simp only [decide_eq_false_iff_not]
  omega
theorem ge_of_lt {x y : Ent} (h : ltE x y = true) : Ge y x := by
  unfold ltE at h; unfold Ge
  simp only [decide_eq_true_eq] at h
  omega
theorem Ge.trans {x y z : Ent} (h : Ge x y) (h2 : Ge y z) : Ge x z := by
  unfold Ge at *
  omega
theorem Ge.refl (x : Ent) : Ge x x := by
  unfold Ge; omega

/-- The entry at a place. -/
def nth (L : List Ent) (i : Nat) : Ent := L.getD i e0

/-- Two places swapped. -/
def swp (L : List Ent) (i j : Nat) : List Ent := (L.set i (nth L j)).set j (nth L i)

theorem swp_length (L : List Ent) (i j : Nat) : (swp L i j).length = L.length := by simp [swp]

theorem nth_swp {L : List Ent} {i j : Nat} (hi : i < L.length) (hj : j < L.length) (k : Nat) : nth (swp L i j) k = if k = j then nth L i else if k = i then nth L j else nth L k := by
  unfold nth swp
  simp only [List.getD_eq_getElem?_getD, List.getElem?_set, List.length_set]
  by_cases h1 : k = j
  · subst h1
    simp [hj, nth]
  · have h1' : ¬ j = k := fun e => h1 e.symm
    by_cases h2 : k = i
    · subst h2
      simp [h1, h1', hi, nth]
    · have h2' : ¬ i = k := fun e => h2 e.symm
      simp [h1, h1', h2, h2']

theorem nth_eq {L : List Ent} {i : Nat} (h : i < L.length) : nth L i = L[i] := by simp [nth, h]
theorem nth_mem {L : List Ent} {i : Nat} (h : i < L.length) : nth L i ∈ L := by rw [nth_eq h]; exact List.getElem_mem h

theorem swp_perm {L : List Ent} {i j : Nat} (hi : i < L.length) (hj : j < L.length) : (swp L i j).Perm L := by
  unfold swp
  rw [nth_eq hi, nth_eq hj]
  exact List.set_set_perm hi hj

theorem swp_self {L : List Ent} {i : Nat} (hi : i < L.length) : swp L i i = L := by
  unfold swp
  rw [nth_eq hi]
  simp

/-- Of the first n each is behind the one above it. -/
def HeapN (n : Nat) (L : List Ent) : Prop := ∀ c, 0 < c → c < n → Ge (nth L c) (nth L ((c - 1) / 2))

/-- All but the place j, which goes up. -/
structure UpI (n : Nat) (L : List Ent) (j : Nat) : Prop where
  rest : ∀ c, 0 < c → c < n → c ≠ j → Ge (nth L c) (nth L ((c - 1) / 2))
  kids : ∀ c, 0 < c → c < n → (c - 1) / 2 = j → 0 < j → Ge (nth L c) (nth L ((j - 1) / 2))

theorem UpI.done0 {n : Nat} {L : List Ent} (h : UpI n L 0) : HeapN n L := fun c h0 hc => h.rest c h0 hc (by omega)
theorem UpI.done {n : Nat} {L : List Ent} {j : Nat} (h : UpI n L j) (hn : ltE (nth L j) (nth L ((j - 1) / 2)) = false) : HeapN n L := by
  intro c h0 hc
  by_cases e : c = j
  · subst e; exact ge_of_not hn
  · exact h.rest c h0 hc e

theorem UpI.step {n : Nat} {L : List Ent} {j : Nat} (h : UpI n L j) (h0 : 0 < j) (hj : j < n) (hn : n ≤ L.length) (hl : ltE (nth L j) (nth L ((j - 1) / 2)) = true) :
    UpI n (swp L ((j - 1) / 2) j) ((j - 1) / 2) := by
  have hg := ge_of_lt hl
  have hp : (j - 1) / 2 < j := by omega
  have N := fun k => nth_swp (L := L) (i := (j - 1) / 2) (j := j) (by omega) (by omega) k
  obtain ⟨q, hq⟩ : ∃ q, (j - 1) / 2 = q := ⟨_, rfl⟩
  rw [hq] at hg hp N ⊢
  have hr := h.rest
  have hk := h.kids
  rw [hq] at hk
  refine ⟨fun c c0 cn cne => ?_, fun c c0 cn cp q0 => ?_⟩
  · rw [N c, N ((c - 1) / 2)]
    by_cases e1 : c = j
    · subst e1
      rw [if_pos rfl, hq, if_neg (by omega), if_pos rfl]
      exact hg
    · rw [if_neg e1, if_neg cne]
      by_cases e2 : (c - 1) / 2 = j
      · rw [if_pos e2]
        exact hk c c0 cn e2 h0
      · rw [if_neg e2]
        by_cases e3 : (c - 1) / 2 = q
        · rw [if_pos e3]
          have := hr c c0 cn e1
          rw [e3] at this
          exact this.trans hg
        · rw [if_neg e3]
          exact hr c c0 cn e1
  · rw [N c, N ((q - 1) / 2)]
    rw [if_neg (show ¬ (q - 1) / 2 = j by omega), if_neg (show ¬ (q - 1) / 2 = q by omega)]
    have hq2 := hr q q0 (by omega) (by omega)
    by_cases e1 : c = j
    · rw [if_pos e1]; exact hq2
    · rw [if_neg e1, if_neg (by omega)]
      have := hr c c0 cn e1
      rw [cp] at this
      exact this.trans hq2

/-- All but the place i, which goes down; i0: where it began. -/
structure DownI (n : Nat) (L : List Ent) (i0 i : Nat) : Prop where
  rest : ∀ c, 0 < c → c < n → (c - 1) / 2 ≠ i → (c ≠ i ∨ i ≠ i0) → Ge (nth L c) (nth L ((c - 1) / 2))
  kids : ∀ c, 0 < c → c < n → (c - 1) / 2 = i → 0 < i → Ge (nth L c) (nth L ((i - 1) / 2))

/-- It has stopped. -/
theorem DownI.stop {n : Nat} {L : List Ent} {i0 i : Nat} (h : DownI n L i0 i) (hs : ∀ c, 0 < c → c < n → (c - 1) / 2 = i → Ge (nth L c) (nth L i)) :
    (i ≠ i0 → HeapN n L) ∧ (i = i0 → UpI n L i0) := by
  refine ⟨fun hne c c0 cn => ?_, fun he => ⟨fun c c0 cn cne => ?_, fun c c0 cn cp i0p => ?_⟩⟩
  · by_cases e : (c - 1) / 2 = i
    · rw [e]; exact hs c c0 cn e
    · exact h.rest c c0 cn e (.inr hne)
  · subst he
    by_cases e : (c - 1) / 2 = i
    · rw [e]; exact hs c c0 cn e
    · exact h.rest c c0 cn e (.inl cne)
  · subst he
    exact h.kids c c0 cn cp i0p

theorem DownI.step {n : Nat} {L : List Ent} {i0 i j : Nat} (h : DownI n L i0 i) (hj : (j - 1) / 2 = i) (j0 : 0 < j) (jn : j < n) (hn : n ≤ L.length) (hl : ltE (nth L j) (nth L i) = true)
    (hmin : ∀ c, 0 < c → c < n → (c - 1) / 2 = i → Ge (nth L c) (nth L j)) : DownI n (swp L i j) i0 j := by
  have hg := ge_of_lt hl
  have N := fun k => nth_swp (L := L) (i := i) (j := j) (by omega) (by omega) k
  have hr := h.rest
  have hk := h.kids
  refine ⟨fun c c0 cn cp _ => ?_, fun c c0 cn cp _ => ?_⟩
  · rw [N c, N ((c - 1) / 2)]
    rw [if_neg cp]
    by_cases e1 : c = j
    · rw [if_pos e1, e1, if_pos hj]
      exact hg
    · rw [if_neg e1]
      by_cases e2 : c = i
      · rw [if_pos e2, if_neg (by omega), e2]
        exact hk j j0 jn hj (by omega)
      · rw [if_neg e2]
        by_cases e3 : (c - 1) / 2 = i
        · rw [if_pos e3]; exact hmin c c0 cn e3
        · rw [if_neg e3]; exact hr c c0 cn e3 (.inl e2)
  · rw [N c, N ((j - 1) / 2)]
    rw [if_neg (show ¬ c = j by omega), if_neg (show ¬ c = i by omega), hj, if_neg (show ¬ i = j by omega), if_pos rfl]
    have := hr c c0 cn (by omega) (.inl (by omega))
    rw [cp] at this
    exact this

/-- One place of a heap is other: it may go down, and up. -/
theorem DownI.other {n : Nat} {L L' : List Ent} {i : Nat} (h : HeapN n L) (hne : ∀ c, c < n → c ≠ i → nth L' c = nth L c) : DownI n L' i i := by
  refine ⟨fun c c0 cn cp hc => ?_, fun c c0 cn cp i0 => ?_⟩
  · have hci : c ≠ i := hc.elim id (fun e => absurd rfl e)
    rw [hne c cn hci, hne _ (by omega) cp]
    exact h c c0 cn
  · rw [hne c cn (by omega), hne ((i - 1) / 2) (by omega) (by omega)]
    have h1 := h c c0 cn
    rw [cp] at h1
    exact h1.trans (h i i0 (by omega))

/-- One is added behind a heap. -/
theorem UpI.added {n : Nat} {L L' : List Ent} (h : HeapN n L) (he : ∀ c, c < n → nth L' c = nth L c) : UpI (n + 1) L' n := by
  refine ⟨fun c c0 cn cne => ?_, fun c c0 cn cp _ => absurd cp (by omega)⟩
  rw [he c (by omega), he _ (by omega)]
  exact h c c0 (by omega)

/-- The first of a heap is behind none. -/
theorem HeapN.first {n : Nat} {L : List Ent} (h : HeapN n L) : ∀ (m i : Nat), i ≤ m → i < n → Ge (nth L i) (nth L 0)
  | 0, i, hm, _ => by obtain rfl : i = 0 := by omega
                      exact Ge.refl _
  | m + 1, i, hm, hi => by
    by_cases e : i = 0
    · subst e; exact Ge.refl _
    · exact (h i (by omega) hi).trans (HeapN.first h m ((i - 1) / 2) (by omega) (by omega))

theorem HeapN.mono {n m : Nat} {L : List Ent} (h : HeapN n L) (hm : m ≤ n) : HeapN m L := fun c c0 cm => h c c0 (by omega)
theorem HeapN.congr {n : Nat} {L L' : List Ent} (h : HeapN n L) (he : ∀ c, c < n → nth L' c = nth L c) : HeapN n L' := fun c c0 cn => by
  rw [he c cn, he _ (by omega)]; exact h c c0 cn

end Go.Proofs.Ytahdeliopmkpmaa
