/-
  SatClock returns true for every int and every slice of ints: a clock that goes on by the slice's first 40 is at the sum, cut; it never goes back and never past the last tick. Conditions: none.
-/
import Derived.Test.YtjpfgjjohaepcaaClock
namespace Go.Proofs.Ytjpfgjjohaepcaa.satClock
open Go.ChangeShapes Go.WideShapes Go.ChangeAt Go.RowKit

theorem own : ownKnob Try.prog.godebug = none := by kernel_rfl
theorem laidOut : laidOutB Try.prog = true := by kernel_rfl
theorem cells3 : Try.prog.cellsOf 3 = 1 := by kernel_rfl

set_option maxRecDepth 100000 in
theorem lifted (os : Os) (started : os.Started) (H : Type) (enc : TypeId × Value → H) :
    ReturnsInHanded {} Try.checked os 5 .any (Rows.satClockSpec.pre6 enc Try.prog Try.f5 Rows.satClockRow.domain false) (Rows.satClockSpec.post enc Try.prog Try.f5 false true false false) := by
  refine returnsInHanded_of_change (C := Try.checked) own started (by kernel_rfl) Try.func5
    (ChangeSpec.witness6 (enc := enc) (C := Try.checked) false ⟨#[], #[.int .i64 0, .slice none 0 0], []⟩ 8 (by kernel_rfl) (by kernel_rfl) (by kernel_rfl) (by kernel_rfl)) ?_
  intro W base args ds gs before hval0 hW hcnd _
  have hval : ∀ (j : Nat) t v, Try.f5.params[j]? = some t → args[j]? = some v → Value.okWide Try.prog W .any base t v := hval0
  have hW' := hW
  obtain ⟨p, q, hA0, hV, rfl, hfz, hnd⟩ := hW
  have hA : DataW.TrodAll enc Try.prog W 0 (fun _ => true) true Try.f5.params.toList args.toList ds p := hA0
  rw [Try.params5] at hA hval
  obtain ⟨v1, v0, d1, d0, p1, p, rfl, rfl, rfl, h1, h0⟩ := trodAll_two hA
  obtain ⟨rfl, rfl⟩ := trodVars_none hV
  obtain ⟨t, rfl, rfl, rfl, wt⟩ := open_int Try.underlying3 (hval 0 3 v1 rfl rfl) h1
  obtain ⟨a0, len, cap, rfl⟩ := okWide_slice Try.underlying26 (hval 1 26 v0 rfl rfl)
  have h0k := h0
  obtain ⟨fuel, hf⟩ := h0
  clear hA0 hval0
  simp only [List.append_nil] at hW'
  have hlt : ∀ x ∈ p, x.block < W.heap.size := fun x hx => by simpa using hW'.lt x hx
  have hargs : ∀ (W' : World), Below W.heap.size W W' → DataW.Trod enc Try.prog W' 0 (fun b => decide (b < W.heap.size)) true 26 (.slice a0 len cap) d0 p :=
    fun W' hn => Below.trod laidOut (by kernel_rfl) (of_decide_eq_true (by kernel_rfl)) h0k hn hlt
  have fin : ∀ (zs : List Int), len ≤ cap → cap ≤ maxLen → Reads W a0 len zs → (0 < len → ∀ p, a0 = some p → p.block < W.heap.size) →
      Calls Try.checked.prog 5 #[.int .i64 t, .slice a0 len cap] W fun e W' => ∃ v, e = Ending.returned v ∧ Rows.satClockSpec.post enc Try.checked.prog Try.f5 false true false false W #[.int .i64 t, .slice a0 len cap] v W' := by
    intro zs h1 h2 h3 h4
    refine (clock_any t a0 len cap zs W h1 h2 h3 h4).mono fun e W' ⟨he, hnx⟩ => ?_
    subst he
    refine ⟨_, rfl, _, _, _, [], [] ++ p, [], hW', ?_, ?_, rfl, hnx.frame _, fun h => by cases h⟩
    · exact trodAll_mk1 (shut_bool Try.underlying4 _)
    · exact trodAll_mk2 (shut_int Try.underlying3 wt) (hargs _ hnx)
  rcases open_ints Try.underlying26 Try.underlying3 cells3 hf with ⟨hcs, hx⟩ | ⟨a, len', cap', zs, hcs, _, hl, hm, hz, hx, hcell, hwz⟩
  · simp [Value.cells] at hcs
    obtain ⟨rfl, rfl, rfl⟩ := hcs
    exact fin [] (Nat.le_refl _) (Nat.zero_le _) (Reads.none W) (fun h => absurd h (Nat.lt_irrefl _))
  · simp [Value.cells] at hcs
    obtain ⟨rfl, rfl, rfl⟩ := hcs
    simp only [if_true] at hz
    simp only [Prod.mk.injEq] at hx
    obtain ⟨_, rfl⟩ := hx
    obtain ⟨b, off, spot⟩ := a
    by_cases hl0 : len = 0
    · subst hl0
      exact fin [] hl hm ⟨rfl, fun j hj => absurd hj (Nat.not_lt_zero j)⟩ (fun h => absurd h (Nat.lt_irrefl _))
    · have hspot : spot = none := by simpa [Addr.add] using World.cell?_spot (hcell 0 (by omega))
      subst hspot
      have hbW : b < W.heap.size := hlt (.cell b off) (MemPlace.mem_row.2 ⟨0, by omega, by simp⟩)
      refine fin (zs.take len) hl hm ⟨by rw [List.length_take]; omega, fun j hj => ⟨b, off, rfl, ?_⟩⟩ (fun _ p hp => by cases hp; exact hbW)
      have := hcell j (by omega)
      rw [add_plain] at this
      rw [this]
      simp [hj]

theorem over : Rows.satClockRow.holds Try.pinned (OpenSpec.ofChange Rows.satClockSpec) :=
  OpenClaim.holds_of_wide 5 Try.f5 rfl rfl rfl rfl rfl rfl rfl ⟨rfl, rfl, rfl, rfl, rfl⟩ rfl rfl rfl rfl rfl (by kernel_rfl) Try.func5 (by kernel_rfl)
    (of_decide_eq_true (by kernel_rfl)) (by unfold Func.isWrapper; first | (rw [if_pos (by decide +kernel)]; kernel_rfl) | (rw [if_neg (by decide +kernel)]; exact ⟨rfl, rfl⟩))
    (fun os started H enc _ => lifted os started H enc)

theorem proved : Rows.SatClockSaid :=
  over
#print axioms proved
end Go.Proofs.Ytjpfgjjohaepcaa.satClock
