/-
  Ticks that are told one behind the other and do not fall, in plain mathematics: what a window has of them. Conditions: where it is said, the ticks are cut and do not fall.
-/
import Derived.Test.YtjnacpcdkkfdgaaPure
namespace Go.Proofs.Ytjnacpcdkkfdgaa

/-- The ticks own were told, none of them above y; L is what a window so long has of them at y. -/
structure Inv (s : Int) (own : List Int) (y : Int) (L : List Int) : Prop where
  s1 : 1 ≤ s
  row : Row own
  tk : Tk y
  le : ∀ x ∈ own, x ≤ y
  eq : L = allR s y own

section
variable {s y z : Int} {own L : List Int}
theorem Inv.nil (h : 1 ≤ s) : Inv s [] 0 [] := ⟨h, Row.nil, ⟨by omega, by omega⟩, fun _ h => by simp at h, rfl⟩
theorem Inv.last (h : Inv s own y L) : lastI L ≤ y := by
  by_cases h0 : 0 < L.length
  · have := last_mem h0
    rw [h.eq] at this
    have := h.le _ (List.mem_filter.1 this).1
    rw [h.eq]
    exact this
  · obtain hn : L = [] := List.length_eq_zero_iff.1 (by omega)
    rw [hn]
    exact h.tk.1
theorem Inv.len (h : Inv s own y L) : L.length ≤ own.length := by rw [h.eq]; exact all_length _ _ _
theorem Inv.rowL (h : Inv s own y L) : Row L := by rw [h.eq]; exact h.row.all _ _
theorem Inv.leL (h : Inv s own y L) : ∀ x ∈ L, x ≤ y := by rw [h.eq]; exact fun x hx => h.le x (List.mem_filter.1 hx).1
theorem Inv.add (h : Inv s own y L) (h1 : y ≤ z) (h2 : z ≤ 1099511627776) : max (cut z) (lastI L) = z ∧ max y (cut z) = z ∧ Inv s (own ++ [z]) z (cntL s z (L ++ [z])) := by
  have hy := h.tk.1
  have hz : Tk z := ⟨by omega, h2⟩
  have hc := hz.cut
  have hl := h.last
  refine ⟨by omega, by omega, h.s1, h.row.snoc hz (fun x hx => by have := h.le x hx; omega), hz, fun x hx => ?_, ?_⟩
  · rcases List.mem_append.1 hx with h3 | h3
    · have := h.le x h3; omega
    · rw [List.mem_singleton.1 h3]; exact Int.le_refl _
  · rw [cnt_all h.s1 hz (h.rowL.snoc hz (fun x hx => by have := h.leL x hx; omega)), all_app, all_app, h.eq, all_all _ h1]
theorem Inv.count (h : Inv s own y L) (h1 : y ≤ z) (h2 : z ≤ 1099511627776) : max y (cut z) = z ∧ Inv s own z (cntL s z L) := by
  have hy := h.tk.1
  have hz : Tk z := ⟨by omega, h2⟩
  have hc := hz.cut
  refine ⟨by omega, h.s1, h.row, hz, fun x hx => by have := h.le x hx; omega, ?_⟩
  rw [cnt_all h.s1 hz h.rowL, h.eq, all_all _ h1]
theorem Inv.pos (h : Inv s (own ++ [z]) z L) : 1 ≤ L.length := by
  rw [h.eq, all_app, all_own _ _ h.s1, List.length_append]
  simp
theorem Inv.gone (h : Inv s own y L) (h1 : y + s ≤ z) : cntL s z L = [] ∨ 1099511627776 < z := by
  by_cases h2 : z ≤ 1099511627776
  · left
    have hs := h.s1
    obtain ⟨_, hi⟩ := h.count (by omega) h2
    rw [hi.eq]
    exact all_none (fun x hx => by have := h.le x hx; omega)
  · exact .inr (by omega)
end

end Go.Proofs.Ytjnacpcdkkfdgaa
