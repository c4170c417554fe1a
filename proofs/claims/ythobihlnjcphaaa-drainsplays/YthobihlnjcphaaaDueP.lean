/-
  What holds all through DrainsDue: those under way are the names, in their row; those that are due are of them. Conditions: drains lie where they are said to lie.
-/
import Derived.Test.YthobihlnjcphaaaLives
import Derived.Deep.RegionHeld3
namespace Go.Proofs.Ythobihlnjcphaaa
open Go.ChangeShapes Go.WideShapes Go.ChangeAt Go.RowKit

theorem StrsAt.keep {w w' : World} {A : Nat → Prop} {a : Option Addr} {len cap : Nat} {ss : List ByteArray} (h : StrsAt w a len cap ss) (hk : Keep A w w') (hA : ∀ x, a = some x → A x.block) : StrsAt w' a len cap ss := by
  refine ⟨h.hlen, h.hle, h.hcap, fun j hj => ?_⟩
  obtain ⟨b, off, e, hlt, hc⟩ := h.at_ j hj
  exact ⟨b, off, e, Nat.lt_of_lt_of_le hlt hk.size, hk.cell (a := ⟨b, off + j, none⟩) hc (hA ⟨b, off, none⟩ e)⟩
theorem IntsAt.keep {w w' : World} {A : Nat → Prop} {a : Option Addr} {len cap : Nat} {zs : List Int} (h : IntsAt w a len cap zs) (hk : Keep A w w') (hA : ∀ x, a = some x → A x.block) : IntsAt w' a len cap zs := by
  refine ⟨h.hlen, h.hle, h.hcap, fun j hj => ?_⟩
  obtain ⟨b, off, e, hlt, hc⟩ := h.at_ j hj
  exact ⟨b, off, e, Nat.lt_of_lt_of_le hlt hk.size, hk.cell (a := ⟨b, off + j, none⟩) hc (hA ⟨b, off, none⟩ e)⟩

theorem cut_mono {a b : Int} (h : a ≤ b) : cut a ≤ cut b := by unfold cut; split <;> split <;> (try split) <;> (try split) <;> omega
theorem past_mono {a b d : Int} (h : a ≤ b) (hp : past a d = true) : past b d = true := by
  unfold past at *
  have := cut_mono h
  simp only [decide_eq_true_eq] at *
  omega
theorem past_max (d : Int) : past 1099511627776 d = true := by
  unfold past
  have := cut_hi d
  have h2 : cut 1099511627776 = 1099511627776 := by decide +kernel
  simp only [decide_eq_true_eq]
  omega
theorem dueL_max (M : List Dr) : dueL 1099511627776 M = nms M := by
  unfold dueL
  congr 1
  rw [List.filter_eq_self]
  intro p _
  exact past_max _
theorem mem_due {now : Int} {M : List Dr} (h : (nms M).Nodup) {i : Nat} (hi : i < M.length) : hasB (dueL now M) (nthD M i).1 = past now (nthD M i).2 := by
  have hm : nthD M i ∈ M := by rw [nthD_eq hi]; exact List.getElem_mem hi
  cases hp : past now (nthD M i).2 with
  | true =>
    rw [hasB_iff]
    exact List.mem_map_of_mem (List.mem_filter.2 ⟨hm, hp⟩)
  | false =>
    rw [hasB_not]
    intro hx
    obtain ⟨q, hq, e⟩ := List.mem_map.1 hx
    obtain ⟨hq1, hq2⟩ := List.mem_filter.1 hq
    obtain ⟨j, hj, rfl⟩ := List.getElem_of_mem hq1
    have hji : j = i := by
      have h1 : (nms M)[j]'(by rw [nms_length]; exact hj) = (nms M)[i]'(by rw [nms_length]; exact hi) := by
        simp only [nms, List.getElem_map]
        rw [e, nthD_eq hi]
      exact (List.getElem_inj h).1 h1
    subst hji
    rw [nthD_eq hi] at hp
    simp [hp] at hq2
theorem due_split (now : Int) (M : List Dr) (i : Nat) : dueL now M = dueL now (M.take i) ++ dueL now (M.drop i) := by
  unfold dueL
  rw [← nms_append, ← List.filter_append, List.take_append_drop]
theorem due_at {now : Int} {M : List Dr} {i : Nat} (hi : i < M.length) (hp : past now (nthD M i).2 = true) : (dueL now (M.take i)).length < (dueL now M).length ∧ (dueL now M).getD (dueL now (M.take i)).length ⟨#[]⟩ = (nthD M i).1 := by
  have h1 := due_split now M (i + 1)
  rw [dueL_yes hi hp] at h1
  have hl : (dueL now (M.take i)).length < (dueL now M).length := by rw [h1]; simp
  refine ⟨hl, ?_⟩
  generalize dueL now (M.take i) = D at *
  rw [h1]
  simp [List.getD]

/-- What holds all through the look at those that are due. -/
structure DW (w5 : World) (A : Nat → Prop) (g : Nat) (M : List Dr) (w' : World) : Prop where
  d : DIn w' A g 0 [] M
  bel : Below w5.heap.size w5 w'
section
variable {w5 w' w'' : World} {A : Nat → Prop} {g q : Nat} {M : List Dr} {x y : Int}
theorem DW.step (h : DW w5 A g M w') (hb : Below w'.heap.size w' w'') : DW w5 A g M w'' := ⟨h.d.same hb, below_trans h.bel hb⟩
theorem dw_step (h : w'.cell? ⟨q, 0, none⟩ = some (.int .i64 x) ∧ w'.cell? ⟨q, 1, none⟩ = some (.int .i64 y) ∧ DW w5 A g M w') (hb : Below w'.heap.size w' w'') :
    w''.cell? ⟨q, 0, none⟩ = some (.int .i64 x) ∧ w''.cell? ⟨q, 1, none⟩ = some (.int .i64 y) ∧ DW w5 A g M w'' :=
  ⟨(hb.cell (World.block_lt_of_cell? _ _ h.1)).trans h.1, (hb.cell (World.block_lt_of_cell? _ _ h.2.1)).trans h.2.1, h.2.2.step hb⟩
theorem dw_of (h : w'.cell? ⟨q, 0, none⟩ = some (.int .i64 x) ∧ w'.cell? ⟨q, 1, none⟩ = some (.int .i64 y) ∧ DW w5 A g M w') : DW w5 A g M w' := h.2.2
theorem due_dw (now : Int) (D : List ByteArray) (n : Nat) (hl : M.length ≤ 900) (hD : dueL now M = D) (hn : D.length = n) (w' : World) (h : DW w5 A g M w') :
    Calls Try.prog 26 #[.pointer (some ⟨g, 0, none⟩), .int .i64 now] w' fun e w'' => ∃ a c, e = .returned (.slice a n c) ∧ StrsAt w'' a n c D ∧ Below w'.heap.size w' w'' :=
  due_n w' A g [] M now h.d hl D n hD hn
end

theorem begun_d (w : World) (A : Nat → Prop) (g : Nat) (M : List Dr) (f : ByteArray) (d : Int) (h : DIn w A g 0 [] M) (hn : (nms M).Nodup) (hf : f ∈ names6) (hx : f ∉ nms M) (hl : M.length ≤ 900) :
    Calls Try.prog 15 #[.pointer (some ⟨g, 0, none⟩), .string f, .int .i64 d] w fun e w' => e = .returned (.int .i64 0) ∧ DIn w' A g 0 [] (M ++ [(f, cut d)]) ∧ Keep A w w' := by
  have hok := names6_ok f hf
  have hs := nameB_size hok
  have := beg_ok w A g [] M f d h ⟨List.nodup_nil, hn, fun _ h => absurd h List.not_mem_nil, by simp⟩ (by unfold maxLen; omega) hok (isIn_not.2 hx) hl
  exact this
theorem nms_snoc (M : List Dr) (p : Dr) : nms (M ++ [p]) = nms M ++ [p.1] := List.map_append

end Go.Proofs.Ythobihlnjcphaaa
