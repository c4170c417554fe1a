/-
  What stands in PoolOne's walk: the calls of Make by cases; a connection is in just one of the lists; what is held while the lists are asked. Conditions: the pool lies where it is said to lie.
-/
import Derived.Test.YtedbiaopbfejfaaWaysP
import Derived.Deep.RegionHeld3
namespace Go.Proofs.Ytedbiaopbfejfaa
open Go.ChangeShapes Go.WideShapes Go.ChangeAt Go.RowKit Go.Maps

section
variable {w : World} {A : Nat → Prop} {g R K : Nat} {s : St} {x : Int}
theorem make_there (h : PAt w A g R s K) (hx : Wf x) (h0 : x ∈ s.ids) :
    Calls Try.prog 14 #[.pointer (some ⟨g, 0, none⟩), .int .i64 x] w fun e w' => e = .returned (.int .i64 6) ∧ PAt w' A g R s K ∧ Keep A w w' := by
  have := make_w h hx
  unfold makeE makeS at this
  rw [if_pos h0, if_pos h0] at this
  exact this
theorem make_full (h : PAt w A g R s K) (hx : Wf x) (h0 : x ∉ s.ids) (h1 : R ≤ s.ids.length) :
    Calls Try.prog 14 #[.pointer (some ⟨g, 0, none⟩), .int .i64 x] w fun e w' => e = .returned (.int .i64 7) ∧ PAt w' A g R s K ∧ Keep A w w' := by
  have := make_w h hx
  unfold makeE makeS at this
  rw [if_neg h0, if_pos h1, if_neg h0, if_pos h1] at this
  exact this
theorem make_ok (h : PAt w A g R s K) (hx : Wf x) (h0 : x ∉ s.ids) (h1 : ¬ R ≤ s.ids.length) :
    Calls Try.prog 14 #[.pointer (some ⟨g, 0, none⟩), .int .i64 x] w fun e w' => e = .returned (.int .i64 0) ∧ PAt w' A g R (mkS s x) K ∧ Keep A w w' := by
  have := make_w h hx
  unfold makeE makeS at this
  rw [if_neg h0, if_neg h1, if_neg h0, if_neg h1] at this
  exact this

theorem not_there (s : St) (x : Int) : x ∉ (dr s x).ids := by
  rw [ids_dr]
  exact fun h => (mem_less.1 h).2 rfl

theorem just_one (h : PAt w A g R s K) {y : Int} (hy : y ∈ srt s.ids) :
    (decide (y ∈ srt s.M) = true ∧ decide (y ∈ s.I) = false ∧ decide (y ∈ srt s.B) = false) ∨ (decide (y ∈ srt s.M) = false ∧ decide (y ∈ s.I) = true ∧ decide (y ∈ srt s.B) = false) ∨ (decide (y ∈ srt s.M) = false ∧ decide (y ∈ s.I) = false ∧ decide (y ∈ srt s.B) = true) := by
  obtain ⟨cn, hi⟩ := h.q.inv
  simp only [mem_srt] at hy ⊢
  rcases mem_ids.1 hy with h1 | h1 | h1
  · have := hi.m_out h1
    exact .inl ⟨decide_eq_true h1, decide_eq_false this.1, decide_eq_false this.2⟩
  · have := hi.i_out h1
    exact .inr (.inl ⟨decide_eq_false this.1, decide_eq_true h1, decide_eq_false this.2⟩)
  · have := hi.b_out h1
    exact .inr (.inr ⟨decide_eq_false this.1, decide_eq_false this.2, decide_eq_true h1⟩)
theorem three_len (s : St) : (srt s.ids).length = (srt s.M).length + s.I.length + (srt s.B).length := by simp [srt_length, St.ids]; omega
end

/-- What is held while the lists are asked: the pool, and the cell of All's list. -/
def LO (wA : World) (A : Nat → Prop) (g R K : Nat) (s : St) (b o : Nat) (y : Int) (w' : World) : Prop :=
  w'.cell? ⟨b, o, none⟩ = some (.int .i64 y) ∧ PAt w' A g R s K ∧ Below wA.heap.size wA w' ∧ b < wA.heap.size
theorem lo_step {wA w' w'' : World} {A : Nat → Prop} {g R K b o : Nat} {s : St} {y : Int} (h : w'.cell? ⟨b, o, none⟩ = some (.int .i64 y) ∧ LO wA A g R K s b o y w') (hb : Below w'.heap.size w' w'') : w''.cell? ⟨b, o, none⟩ = some (.int .i64 y) ∧ LO wA A g R K s b o y w'' := by
  obtain ⟨_, h1, h2, h3, h4⟩ := h
  have hl : b < w'.heap.size := Nat.lt_of_lt_of_le h4 h3.size
  have hc := (hb.cell (p := ⟨b, o, none⟩) hl).trans h1
  exact ⟨hc, hc, h2.belowS hb, below_trans h3 hb, h4⟩
theorem lo_pat {wA w' : World} {A : Nat → Prop} {g R K b o : Nat} {s : St} {y : Int} (h : w'.cell? ⟨b, o, none⟩ = some (.int .i64 y) ∧ LO wA A g R K s b o y w') : PAt w' A g R s K := h.2.2.1

end Go.Proofs.Ytedbiaopbfejfaa
