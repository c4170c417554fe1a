/-
  What Due does, also of nil. Conditions: drains lie where they are said to lie, at most 5000 are under way.
-/
import Derived.Test.YtmlkpfkeeifgeaaDoorWaits
namespace Go.Proofs.YtmlkpfkeeifgeaaDoor
open Go.ChangeShapes Go.WideShapes Go.ChangeAt Go.RowKit Go.Joins Go.Deep

/-- The names of those that are due. -/
def dueL (now : Int) (M : List Dr) : List ByteArray := nms (M.filter (fun p => past now p.2))
theorem dueL_len (now : Int) (M : List Dr) : (dueL now M).length ≤ M.length := by unfold dueL; rw [nms_length]; exact List.length_filter_le _ _
theorem dueL_yes {now : Int} {M : List Dr} {i : Nat} (h : i < M.length) (hp : past now (nthD M i).2 = true) : dueL now (M.take (i + 1)) = dueL now (M.take i) ++ [(nthD M i).1] := by
  unfold dueL
  rw [takeD_snoc h, List.filter_append, nms_append]
  congr 1
  simp [hp, nms]
theorem dueL_no {now : Int} {M : List Dr} {i : Nat} (h : i < M.length) (hp : past now (nthD M i).2 = false) : dueL now (M.take (i + 1)) = dueL now (M.take i) := by
  unfold dueL
  rw [takeD_snoc h, List.filter_append, nms_append]
  simp [hp, nms]

theorem due_nil (now : Int) (w : World) : Calls Tryd.prog 63 #[.pointer none, .int .i64 now] w fun e w' => e = .returned (.slice none 0 0) ∧ w' = w := by
  go_enter Tryd.func63, Tryd.ntmps63
  go_wp2
  go_ret
  exact ⟨rfl, rfl⟩

set_option maxHeartbeats 2000000 in
set_option maxRecDepth 100000 in
theorem due_w (w : World) (A : Nat → Prop) (g : Nat) (L M : List Dr) (now : Int) (h : DIn w A g 0 L M) (hl : M.length ≤ 4000) :
    Calls Tryd.prog 63 #[.pointer (some ⟨g, 0, none⟩), .int .i64 now] w fun e w' => ∃ v, e = .returned v ∧ w'.ownsRow w.heap.size 9 1 v (dueL now M).length (sc (dueL now M)) ∧ Below w.heap.size w w' := by
  obtain ⟨i0, hi, hz0, hz1, hz2⟩ := info_parts info9
  obtain ⟨a, c, c0, hle, hcm, hrow⟩ := h.swap0.row (.inr rfl)
  have HR : Hid (∀ i, i < M.length → ∃ b, a = some ⟨b, 0, none⟩ ∧ b < w.heap.size ∧ w.cell? ⟨b, i * 2, none⟩ = some (.string (nthD M i).1) ∧ w.cell? ⟨b, i * 2 + 1, none⟩ = some (.int .i64 (nthD M i).2)) := hrow
  have HT : Hid (M.take M.length = M) := List.take_length
  have HY : Hid (∀ i, i < M.length → past now (nthD M i).2 = true → dueL now (M.take (i + 1)) = dueL now (M.take i) ++ [(nthD M i).1]) := fun i h hp => dueL_yes h hp
  have HN : Hid (∀ i, i < M.length → past now (nthD M i).2 = false → dueL now (M.take (i + 1)) = dueL now (M.take i)) := fun i h hp => dueL_no h hp
  generalize hn : M.length = n at *
  have HM := Hid.mk' hn
  unfold maxLen at hcm
  clear h hrow hn
  go_enter Tryd.func63, Tryd.ntmps63
  go_wp2
  go_loopw [16, 5] (fun v16 v wr => ∃ i : Nat, v16 = .int .i64 i ∧ i ≤ n ∧ wr.ownsRow w.heap.size 9 1 v (dueL now (M.take i)).length (sc (dueL now (M.take i))) ∧ Below w.heap.size w wr) (fun v16 _ _ => n + 1 - (intOf v16).toNat)
  case atStart => exact ⟨0, rfl, Nat.zero_le _, by simpa [dueL, nms, sc] using World.ownsRow_nil _ _ _ _, Below.refl _ _⟩
  case round =>
    obtain ⟨i, rfl, hin0, hown, hbel⟩ := hrel
    by_cases hin : i < n
    · obtain ⟨b, rfl, hbs, y1, y2⟩ := HR.out i hin
      have HYI := Hid.mk' (HY.out i hin)
      have HNI := Hid.mk' (HN.out i hin)
      have x1 := (hbel.cell (p := ⟨b, i * 2, none⟩) hbs).trans y1
      have x2 := (hbel.cell (p := ⟨b, i * 2 + 1, none⟩) hbs).trans y2
      have hdl := dueL_len now (M.take i)
      rw [List.length_take, HM.out] at hdl
      generalize (nthD M i).1 = y at *
      generalize (nthD M i).2 = d at *
      generalize dueL now (M.take i) = l at *
      have k0 : (wr.alloc (.cells #[.string y, .int .i64 d] 118)).cell? ⟨wr.heap.size, 0, none⟩ = some (.string y) := (blk2 (heap_alloc_new wr (.cells #[.string y, .int .i64 d] 118))).1
      have hown1 := hown.alloc (.cells #[.string y, .int .i64 d] 118)
      have hbel1 : Below w.heap.size w (wr.alloc (.cells #[.string y, .int .i64 d] 118)) := hbel.alloc hbel.size _
      clear y1 y2 hown hbel
      go_wp2_with fail
      refine (past_any _ _ _).mono ?_
      rintro e w' ⟨rfl, hw'⟩
      subst w'
      generalize wr.alloc (.cells #[.string y, .int .i64 d] 118) = wa at *
      cases hp : past now d with
      | true =>
        have HE := Hid.mk' (HYI.out hp)
        clear HYI HNI hp x1 x2
        go_wp2_with (first
          | (at_builtin; refine wpList_append_own _ rfl _ _ 27 rfl w.heap.size 9 i0 (.string ⟨#[]⟩) 1 16 Tryd.underlying27 hi hz0 hz1 hz2 rfl (by decide) _ l.length _ rfl (hown1.alloc _) ⟨wa.heap.size, 0, none⟩ 1 1 [.string y] rfl rfl (news_one _ _ _) (str_one _) (by unfold maxLen; omega) (by omega) (by have := hbel1.size; simp; omega) ?_))
        intro v3 w3 hown3 hgrow3 _
        have hbel3 : Below w.heap.size w w3 := (hbel1.alloc hbel1.size _).grown hgrow3 (by have := hbel1.size; simp; omega) (fun j hj => (hown1.lt j hj).1)
        have hown4 : w3.ownsRow w.heap.size 9 1 v3 (l ++ [y]).length (sc (l ++ [y])) := by rw [sc_snoc, List.length_append]; exact hown3
        rw [← HE.out] at hown4
        clear hown3 hgrow3 hown1 hbel1
        go_wp2
        exact ⟨⟨i + 1, by simp, by omega, hown4, hbel3⟩, by simp [intOf]; omega⟩
      | false =>
        rw [← HNI.out hp] at hown1
        clear HYI HNI hp x1 x2
        go_wp2
        exact ⟨⟨i + 1, by simp, by omega, hown1, hbel1⟩, by simp [intOf]; omega⟩
    · obtain rfl : n = i := by omega
      have HE : Hid (M.take n = M) := HT.out
      rw [HE.out] at hown
      go_wp2
      go_ret
      exact ⟨_, rfl, hown, hbel⟩

end Go.Proofs.YtmlkpfkeeifgeaaDoor
