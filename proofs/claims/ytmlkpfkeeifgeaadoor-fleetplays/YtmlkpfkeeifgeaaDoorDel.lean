/-
  What slices.Delete of one place of a row of drains does: the others stay as they stand, and the place behind them is a drain that is none. Conditions: the row lies where it is said to lie, and the place is one of it.
-/
import Derived.Test.YtmlkpfkeeifgeaaDoorMem
namespace Go.Proofs.YtmlkpfkeeifgeaaDoor
open Go.ChangeShapes Go.WideShapes Go.ChangeAt Go.RowKit Go.Lib

/-- The drains p are put into l from k on. -/
def putL : List Dr → Nat → List Dr → List Dr
  | l, _, [] => l
  | l, k, p :: d => putL (l.set k p) (k + 1) d
theorem putL_length : ∀ (d l : List Dr) (k : Nat), (putL l k d).length = l.length
  | [], _, _ => rfl
  | p :: d, l, k => by
    unfold putL
    rw [putL_length d]
    simp
theorem putL_take : ∀ (d l : List Dr) (k : Nat), k + d.length ≤ l.length → (putL l k d).take (k + d.length) = l.take k ++ d
  | [], l, k, _ => by simp [putL]
  | p :: d, l, k, h => by
    unfold putL
    have h1 : k + 1 + d.length ≤ (l.set k p).length := by simp at h ⊢; omega
    have := putL_take d (l.set k p) (k + 1) h1
    rw [show k + (p :: d).length = k + 1 + d.length by simp; omega, this]
    have hk : k < l.length := by simp at h; omega
    rw [List.take_add_one, List.take_set_of_le (Nat.le_refl _), List.getElem?_set_self hk]
    simp
theorem putL_one (l : List Dr) (k : Nat) (p : Dr) : putL l k [p] = l.set k p := rfl

theorem row_put {b : Nat} : ∀ (d l : List Dr) (k : Nat) (w : World), w.heap[b]? = some (.cells (flat l).toArray 118 (0, 0)) → (w.setCells b (k * 2) (flat d)).heap[b]? = some (.cells (flat (putL l k d)).toArray 118 (0, 0))
  | [], _, _, _, h => h
  | p :: d, l, k, w, h => by
    have h1 := row_set h k p
    have h2 := row_put d (l.set k p) (k + 1) _ h1
    have e : w.setCells b (k * 2) (flat (p :: d)) = (w.setCells b (k * 2) [.string p.1, .int .i64 p.2]).setCells b ((k + 1) * 2) (flat d) := by
      rw [show (k + 1) * 2 = k * 2 + 1 + 1 by omega]
      rfl
    rw [e]
    exact h2
theorem Keep.setMany {A : Nat → Prop} {a : World} {b : Nat} (hx : ¬ A b) : ∀ (vs : List Value) (o : Nat) (w : World), Keep A a w → Keep A a (w.setCells b o vs)
  | [], _, _, h => h
  | v :: r, o, _, h => Keep.setMany hx r (o + 1) _ (h.setCell hx v)

/-- One place is cleared. -/
theorem run_clear_one (w : World) (ty : TypeId) (b k c : Nat) (h0 : (w.cell? ⟨b, k * 2, none⟩).isSome = true) (h1 : (w.cell? ⟨b, k * 2 + 1, none⟩).isSome = true) (hf : ∀ o, w.frozen? ⟨b, o, none⟩ = false) :
    (Builtin.clear_ #[99] ty #[.slice (some ⟨b, k * 2, none⟩) 1 c]).run Tryd.prog w = .ok (.tuple #[]) (w.setCells b (k * 2) [.string ⟨#[]⟩, .int .i64 0]) := by
  have hst := run_storeCells_cells (P := Tryd.prog) b (k * 2) [.string ⟨#[]⟩, .int .i64 0] 0 w (fun j hj => by
    match j, hj with
    | 0, _ => exact h0
    | 1, _ => exact h1) (fun j _ => hf _) (by simp [Value.oneCell'])
  simp only [Nat.add_zero] at hst
  have hz : (Builtin.zeroCells (Value.agg #[.string ⟨#[]⟩, .int .i64 0]).cells 1).toList = [.string ⟨#[]⟩, .int .i64 0] := zeroCells2 1
  simp [Builtin.clear_, run_underlying Tryd.underlying99, hz, hst]

theorem eraseIdx_take {l L : List Dr} {n i : Nat} (hL : l.take n = L) (hi : i < n) : l.take i ++ L.drop (i + 1) = L.eraseIdx i := by
  rw [List.eraseIdx_eq_take_drop_succ, ← hL, List.take_take, Nat.min_eq_left (by omega)]

set_option maxHeartbeats 4000000 in
set_option maxRecDepth 1000000 in
theorem delete_any (w : World) (b n cap i j : Nat) (l L : List Dr) (hg : w.heap[b]? = some (.cells (flat l).toArray 118 (0, 0))) (hl : l.length = cap) (hL : l.take n = L) (hn : n ≤ cap) (hi : i < n) (_hcap : cap ≤ maxLen) (hj : i + 1 = j) :
    Calls Tryd.prog 104 #[.slice (some ⟨b, 0, none⟩) n cap, .int .i64 i, .int .i64 j] w fun e w' => e = .returned (.slice (some ⟨b, 0, none⟩) (n - 1) cap) ∧ ∃ l', w'.heap[b]? = some (.cells (flat l').toArray 118 (0, 0)) ∧ l'.length = cap ∧ l'.take (n - 1) = L.eraseIdx i ∧ Keep (fun k => k ≠ b) w w' := by
  unfold maxLen at _hcap
  obtain ⟨i0, hi0, hz0, hz1, hz2⟩ := info_parts info118
  have hLl : L.length = n := by rw [← hL, List.length_take]; omega
  have hDl : (L.drop j).length = n - j := by rw [List.length_drop, hLl]
  have hlt : i < j := by omega
  have hjn : j ≤ n := by omega
  -- the cells that are moved to the left
  obtain ⟨A, hA, hsrc⟩ : ∃ A : Addr, (if cap = j then some (⟨b, 0, none⟩ : Addr) else some ⟨b, j * 2, none⟩) = some A ∧ Hid (∀ t u, (flat (L.drop j))[t]? = some u → w.drew.cell? (A.add t) = some u) := by
    by_cases h : cap = j
    · refine ⟨⟨b, 0, none⟩, by simp [h], fun t u hu => ?_⟩
      have h0 : (flat (L.drop j)).length = 0 := by rw [flat_length, hDl]; omega
      rw [List.length_eq_zero_iff.1 h0] at hu
      simp at hu
    · refine ⟨⟨b, j * 2, none⟩, by simp [h], fun t u hu => ?_⟩
      have ht : t < (n - j) * 2 := by
        have := (List.getElem?_eq_some_iff.1 hu).1
        rwa [flat_length, hDl] at this
      rw [Addr.add_lit]
      have hq : t / 2 < (L.drop j).length := by rw [hDl]; omega
      have hd := flat_get (L.drop j) (t / 2) hq
      have hrc := row_cells hg (i := j + t / 2) (by omega)
      have e1 : nthD (L.drop j) (t / 2) = nthD l (j + t / 2) := by
        rw [← hL]
        simp only [nthD, List.getD, List.getElem?_drop]
        rw [List.getElem?_take_of_lt (by omega)]
      rw [e1] at hd
      rcases Nat.mod_two_eq_zero_or_one t with hm | hm
      · have e2 : t / 2 * 2 = t := by omega
        rw [e2] at hd
        rw [hd.1] at hu
        cases hu
        have := hrc.1
        rw [show (j + t / 2) * 2 = j * 2 + t by omega] at this
        exact this
      · have e2 : t / 2 * 2 + 1 = t := by omega
        rw [e2] at hd
        rw [hd.2] at hu
        cases hu
        have := hrc.2
        rw [show (j + t / 2) * 2 + 1 = j * 2 + t by omega] at this
        exact this
  have s1 : Hid ((flat (L.drop j)).length = (n - j) * 2) := by show _ = _; rw [flat_length, hDl]
  have s2 : Hid (∀ u ∈ flat (L.drop j), u.oneCell' = true) := flat_one _
  have s3 : Hid (∀ t, t < (flat (L.drop j)).length → (w.drew.cell? ⟨b, 0 + i * 2 + t, none⟩).isSome = true ∧ w.drew.frozen? ⟨b, 0 + i * 2 + t, none⟩ = false) := by
    intro t ht
    rw [flat_length, hDl] at ht
    refine ⟨?_, row_frozen (w := w.drew) hg _⟩
    have hrc := row_cells (w := w.drew) hg (i := i + t / 2) (by omega)
    rcases Nat.mod_two_eq_zero_or_one t with hm | hm
    · rw [show 0 + i * 2 + t = (i + t / 2) * 2 by omega, hrc.1]; rfl
    · rw [show 0 + i * 2 + t = (i + t / 2) * 2 + 1 by omega, hrc.2]; rfl
  -- the world behind the append, behind a name
  obtain ⟨W1, hW1⟩ : ∃ W1, W1 = w.drew.setCells b (0 + i * 2) (flat (L.drop j)) := ⟨_, rfl⟩
  have hg1 : W1.heap[b]? = some (.cells (flat (putL l i (L.drop j))).toArray 118 (0, 0)) := by
    rw [hW1, Nat.zero_add]
    exact row_put _ _ _ _ hg
  have hk1 : Keep (fun k => k ≠ b) w W1 := by
    rw [hW1]
    exact Keep.setMany (fun hn => hn rfl) _ _ _ (Keep.refl _ w).drew
  have hm1 : i + (n - j) = n - 1 := by omega
  have hrl : n - 1 < (putL l i (L.drop j)).length := by rw [putL_length]; omega
  have hrc := row_cells hg1 hrl
  have hcl : ∀ ty, (Builtin.clear_ #[99] ty #[.slice (some ⟨b, (i + (n - j)) * 2, none⟩) (n - (i + (n - j))) (cap - (i + (n - j)))]).run Tryd.prog W1 = .ok (.tuple #[]) (W1.setCells b ((n - 1) * 2) [.string ⟨#[]⟩, .int .i64 0]) := by
    intro ty
    rw [hm1, show n - (n - 1) = 1 by omega]
    exact run_clear_one W1 ty b (n - 1) _ (by rw [hrc.1]; rfl) (by rw [hrc.2]; rfl) (fun o => row_frozen hg1 o)
  have HE : Hid (∃ l', (W1.setCells b ((n - 1) * 2) [.string ⟨#[]⟩, .int .i64 0]).heap[b]? = some (.cells (flat l').toArray 118 (0, 0)) ∧ l'.length = cap ∧ l'.take (n - 1) = L.eraseIdx i ∧ Keep (fun k => k ≠ b) w (W1.setCells b ((n - 1) * 2) [.string ⟨#[]⟩, .int .i64 0])) := by
    refine ⟨_, row_set hg1 (n - 1) zeroD, by simp [putL_length, hl], ?_, hk1.set2 (fun hn => hn rfl) _ _ _⟩
    rw [List.take_set_of_le (Nat.le_refl _), ← hm1]
    have := putL_take (L.drop j) l i (by rw [hDl]; omega)
    rw [hDl] at this
    rw [this, ← hj]
    exact eraseIdx_take hL hi
  have hW : Hid (W1 = w.drew.setCells b (0 + i * 2) (flat (L.drop j))) := hW1
  have hic : i ≤ cap := by omega
  have hjc : j ≤ cap := by omega
  have HM : Hid (i + (n - j) = n - 1) := hm1
  clear hW1 hg1 hk1 hrc hrl hg hl hm1 hj hDl hLl hL
  generalize flat (L.drop j) = news at *
  go_enter Tryd.func104, Tryd.ntmps104
  go_wp2_with fail
  go_region_law (refine step_append_room rfl (.tmp 22) (.tmp 25) 99 rfl 118 i0 2 Tryd.underlying99 hi0 hz1 b 0 i cap (by simp [Act.eval, Act.put]) A (n - j) (cap - j) news (by simp [Act.eval, Act.put]) s1.out hsrc.out s2.out (by omega) s3.out ?_; rw [← hW.out])
  go_wp2
  go_ret
  exact ⟨by rw [HM.out]; rfl, HE.out⟩

end Go.Proofs.YtmlkpfkeeifgeaaDoor
