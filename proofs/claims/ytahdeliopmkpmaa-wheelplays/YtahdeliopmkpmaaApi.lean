/-
  A wheel as the list of its keys and deadlines: what its calls do, each as a contract. Conditions: the wheel lies where it is said to lie; keys are ints; it has fewer than 999 keys where one is set.
-/
import Derived.Test.YtahdeliopmkpmaaRow
namespace Go.Proofs.Ytahdeliopmkpmaa
open Go.ChangeShapes Go.WideShapes Go.ChangeAt Go.RowKit Go.Maps

/-- A wheel at block g has just the keys and deadlines of R, which rise by keys; none of its blocks is one of A. -/
def WAt (w : World) (A : Nat → Prop) (g : Nat) (R : List (Int × Int)) : Prop := Ris R ∧ ∃ mv ov L, WIn w A g mv ov L ∧ (L.map ka).Perm R

theorem WAt.ris {w : World} {A : Nat → Prop} {g : Nat} {R : List (Int × Int)} (h : WAt w A g R) : Ris R := h.1
theorem WAt.below {w w' : World} {A : Nat → Prop} {g : Nat} {R : List (Int × Int)} (h : WAt w A g R) (hb : Below w.heap.size w w') : WAt w' (fun k => A k ∨ (w.heap.size ≤ k ∧ k < w'.heap.size)) g R := by
  obtain ⟨h1, mv, ov, L, h2, h3⟩ := h
  exact ⟨h1, mv, ov, L, h2.below hb, h3⟩
theorem WAt.others {w w' : World} {A : Nat → Prop} {g : Nat} {R : List (Int × Int)} (h : WAt w A g R) (hb : Keep (fun k => ¬ A k) w w') : WAt w' (fun k => A k ∨ (w.heap.size ≤ k ∧ k < w'.heap.size)) g R := by
  obtain ⟨h1, mv, ov, L, h2, h3⟩ := h
  exact ⟨h1, mv, ov, L, h2.others hb, h3⟩
theorem WAt.fewer {w : World} {A B : Nat → Prop} {g : Nat} {R : List (Int × Int)} (h : WAt w A g R) (hB : ∀ k, B k → A k) : WAt w B g R := by
  obtain ⟨h1, mv, ov, L, h2, h3⟩ := h
  exact ⟨h1, mv, ov, L, h2.fewer hB, h3⟩
theorem WAt.guard {w : World} {A : Nat → Prop} {g : Nat} {R : List (Int × Int)} (h : WAt w A g R) : ∀ k, A k → k < w.heap.size := by
  obtain ⟨_, mv, ov, L, h2, _⟩ := h
  exact h2.guard
theorem WAt.few {w : World} {A : Nat → Prop} {g : Nat} {R : List (Int × Int)} (h : WAt w A g R) : R.length ≤ 999 := by
  obtain ⟨_, mv, ov, L, h2, h3⟩ := h
  have := h3.length_eq
  rw [List.length_map] at this
  rw [← this]; exact h2.few
theorem WAt.wf {w : World} {A : Nat → Prop} {g : Nat} {R : List (Int × Int)} (h : WAt w A g R) : ∀ x ∈ R, Wf x.1 := by
  obtain ⟨_, mv, ov, L, h2, h3⟩ := h
  intro x hx
  obtain ⟨e, he, rfl⟩ := List.mem_map.1 (h3.mem_iff.2 hx)
  exact h2.wf e he

theorem new_w (w : World) :
    Calls Try.prog 10 #[] w fun e w' => e = .returned (.pointer (some ⟨w.heap.size, 0, none⟩)) ∧ WAt w' (fun k => k < w.heap.size) w.heap.size [] ∧ Below w.heap.size w w' ∧ w'.heap.size = w.heap.size + 1 :=
  (new_any w).mono fun _ _ ⟨h1, h2, h3, h4⟩ => ⟨h1, ⟨List.Pairwise.nil, _, _, [], h2, List.Perm.refl _⟩, h3, h4⟩

theorem len_w (w : World) (A : Nat → Prop) (g : Nat) (R : List (Int × Int)) (h : WAt w A g R) :
    Calls Try.prog 24 #[.pointer (some ⟨g, 0, none⟩)] w fun e w' => e = .returned (.int .i64 R.length) ∧ w' = w := by
  obtain ⟨_, mv, ov, L, h2, h3⟩ := h
  have := h3.length_eq
  rw [List.length_map] at this
  rw [← this]
  exact wlen_any w A g mv ov L h2

theorem next_w0 (w : World) (A : Nat → Prop) (g : Nat) (h : WAt w A g []) :
    Calls Try.prog 23 #[.pointer (some ⟨g, 0, none⟩)] w fun e w' => e = .returned (.tuple #[.int .i64 0, .bool false]) ∧ w' = w := by
  obtain ⟨_, mv, ov, L, h2, h3⟩ := h
  have h4 : L = [] := List.map_eq_nil_iff.1 h3.eq_nil
  subst h4
  exact next_none w A g mv ov h2

theorem next_w (w : World) (A : Nat → Prop) (g : Nat) (R : List (Int × Int)) (h : WAt w A g R) (h0 : 0 < R.length) :
    ∃ m, (∃ k, (k, m) ∈ R) ∧ (∀ x ∈ R, m ≤ x.2) ∧ Calls Try.prog 23 #[.pointer (some ⟨g, 0, none⟩)] w fun e w' => e = .returned (.tuple #[.int .i64 m, .bool true]) ∧ w' = w := by
  obtain ⟨_, mv, ov, L, h2, h3⟩ := h
  have hl := h3.length_eq
  rw [List.length_map] at hl
  have h0' : 0 < L.length := by omega
  refine ⟨(nth L 0).a, ⟨(nth L 0).k, h3.mem_iff.1 (List.mem_map.2 ⟨nth L 0, nth_mem h0', rfl⟩)⟩, fun x hx => ?_, next_some w A g mv ov L h2 h0'⟩
  obtain ⟨e, he, rfl⟩ := List.mem_map.1 (h3.mem_iff.2 hx)
  obtain ⟨i, hi, rfl⟩ := mem_nth he
  have := h2.heap.first i i (Nat.le_refl _) hi
  unfold Ge at this
  show (nth L 0).a ≤ (nth L i).a
  omega

theorem at_w (w : World) (A : Nat → Prop) (g : Nat) (R : List (Int × Int)) (k : Int) (hw : Wf k) (h : WAt w A g R) :
    Calls Try.prog 20 #[.pointer (some ⟨g, 0, none⟩), .int .i64 k] w fun e w' => e = .returned (.tuple #[.int .i64 (getR R k), .bool (hasR R k)]) ∧ w' = w := by
  obtain ⟨h1, mv, ov, L, h2, h3⟩ := h
  cases hh : hasR R k with
  | true =>
    obtain ⟨a, ha⟩ := hasR_iff.1 hh
    obtain ⟨e, he, hka⟩ := List.mem_map.1 (h3.mem_iff.2 ha)
    unfold ka at hka
    simp at hka
    obtain ⟨rfl, rfl⟩ := hka
    rw [getR_mem h1 ha]
    exact at_hit w A g mv ov L e h2 he
  | false =>
    rw [getR_not hh]
    refine at_miss w A g mv ov L k hw h2 (fun e he => ?_)
    exact hasR_not.1 hh (ka e) (h3.mem_iff.1 (List.mem_map.2 ⟨e, he, rfl⟩))

theorem hit_of {L : List Ent} {R : List (Int × Int)} (h3 : (L.map ka).Perm R) {k : Int} (hh : hasR R k = true) : ∃ i, i < L.length ∧ (nth L i).k = k := by
  obtain ⟨a, ha⟩ := hasR_iff.1 hh
  obtain ⟨e, he, hka⟩ := List.mem_map.1 (h3.mem_iff.2 ha)
  obtain ⟨i, hi, rfl⟩ := mem_nth he
  exact ⟨i, hi, congrArg Prod.fst hka⟩
theorem miss_of {L : List Ent} {R : List (Int × Int)} (h3 : (L.map ka).Perm R) {k : Int} (hh : hasR R k = false) : ∀ e ∈ L, e.k ≠ k := fun e he => hasR_not.1 hh (ka e) (h3.mem_iff.1 (List.mem_map.2 ⟨e, he, rfl⟩))

theorem rest_ne {e : Ent} {Lr L : List Ent} (hap : L.Pairwise (fun x y => x.k ≠ y.k)) (hp : (e :: Lr).Perm L) : ∀ x ∈ Lr.map ka, x.1 ≠ e.k := by
  intro x hx
  obtain ⟨y, hy, rfl⟩ := List.mem_map.1 hx
  exact fun e1 => (List.pairwise_cons.1 (pairwise_perm hap hp)).1 y hy e1.symm

theorem set_w (w : World) (A : Nat → Prop) (g : Nat) (R : List (Int × Int)) (k a : Int) (hw : Wf k) (hl : R.length < 999) (h : WAt w A g R) :
    Calls Try.prog 14 #[.pointer (some ⟨g, 0, none⟩), .int .i64 k, .int .i64 a] w fun e w' => e = .returned (.bool (hasR R k)) ∧ WAt w' A g (setR R k (cut a)) ∧ Keep A w w' := by
  obtain ⟨h1, mv, ov, L, h2, h3⟩ := h
  have hll := h3.length_eq
  rw [List.length_map] at hll
  cases hh : hasR R k with
  | true =>
    obtain ⟨i, hi, rfl⟩ := hit_of h3 hh
    refine (set_hit w A g mv ov L i a h2 hi).mono ?_
    rintro x w' ⟨rfl, L', q1, q2, q3⟩
    refine ⟨rfl, ⟨setR_ris h1 _ _, mv, ov, L', q1, ?_⟩, q3⟩
    obtain ⟨Lr, r1, r2⟩ := split_at hi (cut a)
    have d1 := del_of (((r1.map ka).trans h3)) (rest_ne h2.apart r1)
    have s1 : (L'.map ka).Perm (((nth L i).k, cut a) :: Lr.map ka) := (q2.map ka).trans ((r2.map ka).symm)
    exact s1.trans ((d1.cons _).trans (insR_perm _ _ _).symm)
  | false =>
    have hn := miss_of h3 hh
    have hd : delR R k = R := List.filter_eq_self.2 (fun x hx => by simpa using hasR_not.1 hh x hx)
    have hfin : ∀ (b : Nat) (L' : List Ent), L'.Perm (L ++ [⟨b, k, cut a⟩]) → (L'.map ka).Perm (setR R k (cut a)) := fun b L' hp => by
      unfold setR
      rw [hd]
      refine ((hp.map ka).trans ?_).trans (insR_perm _ _ _).symm
      rw [List.map_append]
      exact (List.perm_append_singleton _ _).trans (h3.cons _)
    rcases h2.map with ⟨hm, _⟩ | ⟨gm, D, hm, _⟩
    · subst hm
      refine (set_first w A g ov L k a h2 hn hw (by omega)).mono ?_
      rintro x w' ⟨rfl, b, mv', ov', L', q1, q2, q3⟩
      exact ⟨rfl, ⟨setR_ris h1 _ _, mv', ov', L', q1, hfin b L' q2⟩, q3⟩
    · subst hm
      refine (set_new w A g gm ov L k a h2 hn hw (by omega)).mono ?_
      rintro x w' ⟨rfl, b, ov', L', q1, q2, q3⟩
      exact ⟨rfl, ⟨setR_ris h1 _ _, _, ov', L', q1, hfin b L' q2⟩, q3⟩

theorem cancel_w (w : World) (A : Nat → Prop) (g : Nat) (R : List (Int × Int)) (k : Int) (hw : Wf k) (h : WAt w A g R) :
    Calls Try.prog 16 #[.pointer (some ⟨g, 0, none⟩), .int .i64 k] w fun e w' => e = .returned (.bool (hasR R k)) ∧ WAt w' A g (delR R k) ∧ Keep A w w' := by
  obtain ⟨h1, mv, ov, L, h2, h3⟩ := h
  cases hh : hasR R k with
  | true =>
    obtain ⟨i, hi, rfl⟩ := hit_of h3 hh
    refine (cancel_hit w A g mv ov L i h2 hi).mono ?_
    rintro x w' ⟨rfl, ov', L', q1, q2, q3⟩
    exact ⟨rfl, ⟨delR_ris h1 _, mv, ov', L', q1, del_of ((q2.map ka).trans h3) (rest_ne h2.apart q2)⟩, q3⟩
  | false =>
    refine (cancel_miss w A g mv ov L k h2 (miss_of h3 hh) hw).mono ?_
    rintro x w' ⟨rfl, rfl⟩
    have hd : delR R k = R := List.filter_eq_self.2 (fun x hx => by simpa using hasR_not.1 hh x hx)
    rw [hd]
    exact ⟨rfl, ⟨h1, mv, ov, L, h2, h3⟩, Keep.refl _ _⟩

theorem due_w (w : World) (A : Nat → Prop) (g : Nat) (R : List (Int × Int)) (now : Int) (h : WAt w A g R) :
    Calls Try.prog 19 #[.pointer (some ⟨g, 0, none⟩), .int .i64 now] w fun e w' => ∃ v, e = .returned v ∧ WAt w' (Av A v) g (restR R now) ∧ w'.ownsRow w.heap.size 3 1 v (dueR R now).length (ic ((dueR R now).map (fun x => x.1))) ∧ Keep A w w' := by
  obtain ⟨h1, mv, ov, L, h2, h3⟩ := h
  refine (due_any w A g mv ov L now h2).mono ?_
  rintro x w' ⟨v, ov', L', Dl, rfl, q1, q2, q3, q4, q5, q6⟩
  have hp : (Dl.map ka ++ L'.map ka).Perm R := by rw [← List.map_append]; exact (q2.map ka).trans h3
  have hd : (Dl.map ka).Perm (dueR R now) := by
    have := hp.filter (fun x => past now x.2)
    rw [List.filter_append, List.filter_eq_self.2 (fun x hx => by obtain ⟨e, he, rfl⟩ := List.mem_map.1 hx; exact q3 e he), List.filter_eq_nil_iff.2 (fun x hx => by obtain ⟨e, he, rfl⟩ := List.mem_map.1 hx; rw [show past now (ka e).2 = false from q4 e he]; simp), List.append_nil] at this
    exact this
  have hr : (L'.map ka).Perm (restR R now) := by
    have := hp.filter (fun x => !past now x.2)
    rw [List.filter_append, List.filter_eq_nil_iff.2 (fun x hx => by obtain ⟨e, he, rfl⟩ := List.mem_map.1 hx; rw [show past now (ka e).2 = true from q3 e he]; simp), List.filter_eq_self.2 (fun x hx => by obtain ⟨e, he, rfl⟩ := List.mem_map.1 hx; rw [show past now (ka e).2 = false from q4 e he]; rfl), List.nil_append] at this
    exact this
  have hl := hd.length_eq
  rw [List.length_map] at hl
  have hs : srt (Dl.map Ent.k) = (dueR R now).map (fun x => x.1) := by
    refine srt_of (dueR_ris h1 now) ?_
    have := hd.map (fun x => x.1)
    rw [List.map_map] at this
    exact this
  rw [hl, hs] at q5
  exact ⟨v, rfl, ⟨restR_ris h1 now, mv, ov', L', q1, hr⟩, q5, q6⟩

theorem keys_w (w : World) (A : Nat → Prop) (g : Nat) (R : List (Int × Int)) (h : WAt w A g R) :
    Calls Try.prog 25 #[.pointer (some ⟨g, 0, none⟩)] w fun e w' => ∃ v, e = .returned v ∧ w'.ownsRow w.heap.size 3 1 v R.length (ic (keysR R)) ∧ Below w.heap.size w w' := by
  obtain ⟨h1, mv, ov, L, h2, h3⟩ := h
  have hl := h3.length_eq
  rw [List.length_map] at hl
  rw [← hl, ← keysE h3]
  exact keys_any w A g mv ov L h2

end Go.Proofs.Ytahdeliopmkpmaa
