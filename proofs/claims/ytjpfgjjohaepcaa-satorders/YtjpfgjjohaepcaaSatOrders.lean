/-
  SatOrders returns true for every three ints: Cut and Add keep the order, Sub turns it, cutting twice is cutting once, Add does not mind the row, and what is taken off and added again is the number, cut. Conditions: none.
-/
import Derived.Test.YtjpfgjjohaepcaaBase
import Derived.WalkKit
import Derived.ProofKit
import Derived.OpenShut
namespace Go.Proofs.Ytjpfgjjohaepcaa.satOrders
open Go.ChangeShapes Go.WideShapes Go.ChangeAt Go.RowKit
set_option linter.unusedVariables false

theorem own : ownKnob Try.prog.godebug = none := by kernel_rfl

theorem cut_cases (n : Int) : (n < 0 ∧ cut n = 0) ∨ (1099511627776 < n ∧ cut n = 1099511627776) ∨ (0 ≤ n ∧ n ≤ 1099511627776 ∧ cut n = n) := by
  by_cases h0 : n < 0
  · exact Or.inl ⟨h0, cut_neg h0⟩
  · by_cases h1 : 1099511627776 < n
    · exact Or.inr (Or.inl ⟨h1, cut_big h1⟩)
    · exact Or.inr (Or.inr ⟨by omega, by omega, cut_mid (by omega) (by omega)⟩)

theorem cut_mono {a b : Int} (h : a ≤ b) : cut a ≤ cut b := by
  have h1 := cut_cases a
  have h2 := cut_cases b
  omega

theorem cut_cut (a : Int) : cut (cut a) = cut a := cut_mid (cut_lo a) (cut_hi a)

theorem add_mono {a b : Int} (c : Int) (h : a ≤ b) : add a c ≤ add b c := by
  have := cut_mono h
  exact cut_mono (by omega)

theorem sub_anti {a b : Int} (c : Int) (h : a ≤ b) : sub c b ≤ sub c a := by
  have := cut_mono h
  exact cut_mono (by omega)

theorem add_comm (a b : Int) : add a b = add b a := by unfold add; rw [Int.add_comm]

theorem add_zero (a : Int) : add a 0 = cut a := by
  have e : cut 0 = 0 := by decide
  unfold add; rw [e, Int.add_zero, cut_cut]

theorem sub_zero (a : Int) : sub a 0 = cut a := by
  have e : cut 0 = 0 := by decide
  unfold sub; rw [e, Int.sub_zero, cut_cut]

theorem sub_add {lo hi : Int} (h : lo ≤ hi) : add (sub hi lo) lo = cut hi := by
  have h0 := cut_mono h
  have l1 := cut_lo lo
  have l2 := cut_hi hi
  unfold add sub
  rw [cut_cut, cut_mid (n := cut hi - cut lo) (by omega) (by omega), Int.sub_add_cancel, cut_cut]

theorem past_of {lo hi : Int} (h : lo ≤ hi) : past hi lo = true := decide_eq_true (cut_mono h)

theorem walk (a0 : Int) (a1 : Int) (a2 : Int) (w0 : (Lit.int .i64 a0).wf = true) (w1 : (Lit.int .i64 a1).wf = true) (w2 : (Lit.int .i64 a2).wf = true) (w : World) :
    Calls Try.prog 8 #[.int .i64 a0, .int .i64 a1, .int .i64 a2] w fun e w' => e = .returned (.bool true) ∧ Grown w w' := by
  have e1 := cut_cut a0
  have e2 := add_comm a0 a1
  have e3 := add_zero a0
  have e4 := sub_zero a0
  rcases Int.lt_trichotomy a0 a1 with h | h | h
  · have hle : a0 ≤ a1 := by omega
    have f1 := cut_mono hle
    have f2 := add_mono a2 hle
    have f3 := sub_anti a2 hle
    have f4 := sub_add hle
    have f5 := past_of hle
    go_enter Try.func8, Try.ntmps8
    go_wp2_with (first
    | (go_at_call 9; refine (lives_any _).mono ?_; rintro e w' ⟨rfl, rfl⟩)
    | (go_at_call 10; refine (cut_any _ _).mono ?_; rintro e w' ⟨rfl, rfl⟩)
    | (go_at_call 12; refine (add_any _ _ _).mono ?_; rintro e w' ⟨rfl, rfl⟩)
    | (go_at_call 14; refine (sub_any _ _ _).mono ?_; rintro e w' ⟨rfl, rfl⟩)
    | (go_at_call 16; refine (past_any _ _ _).mono ?_; rintro e w' ⟨rfl, rfl⟩))
    go_ret; exact ⟨rfl, (Grown.refl _).alloc _ _⟩
  · subst h
    clear e2
    have hle : a0 ≤ a0 := Int.le_refl _
    have f4 := sub_add hle
    have f5 := past_of hle
    clear hle
    go_enter Try.func8, Try.ntmps8
    go_wp2_with (first
    | (go_at_call 9; refine (lives_any _).mono ?_; rintro e w' ⟨rfl, rfl⟩)
    | (go_at_call 10; refine (cut_any _ _).mono ?_; rintro e w' ⟨rfl, rfl⟩)
    | (go_at_call 12; refine (add_any _ _ _).mono ?_; rintro e w' ⟨rfl, rfl⟩)
    | (go_at_call 14; refine (sub_any _ _ _).mono ?_; rintro e w' ⟨rfl, rfl⟩)
    | (go_at_call 16; refine (past_any _ _ _).mono ?_; rintro e w' ⟨rfl, rfl⟩))
    go_ret; exact ⟨rfl, (Grown.refl _).alloc _ _⟩
  · have hle : a1 ≤ a0 := by omega
    have f1 := cut_mono hle
    have f2 := add_mono a2 hle
    have f3 := sub_anti a2 hle
    have f4 := sub_add hle
    have f5 := past_of hle
    go_enter Try.func8, Try.ntmps8
    go_wp2_with (first
    | (go_at_call 9; refine (lives_any _).mono ?_; rintro e w' ⟨rfl, rfl⟩)
    | (go_at_call 10; refine (cut_any _ _).mono ?_; rintro e w' ⟨rfl, rfl⟩)
    | (go_at_call 12; refine (add_any _ _ _).mono ?_; rintro e w' ⟨rfl, rfl⟩)
    | (go_at_call 14; refine (sub_any _ _ _).mono ?_; rintro e w' ⟨rfl, rfl⟩)
    | (go_at_call 16; refine (past_any _ _ _).mono ?_; rintro e w' ⟨rfl, rfl⟩))
    go_ret; exact ⟨rfl, (Grown.refl _).alloc _ _⟩

set_option maxRecDepth 100000 in
theorem lifted (os : Os) (started : os.Started) (H : Type) (enc : TypeId × Value → H) :
    ReturnsInHanded {} Try.checked os 8 .any (Rows.satOrdersSpec.pre6 enc Try.prog Try.f8 Rows.satOrdersRow.domain false) (Rows.satOrdersSpec.post enc Try.prog Try.f8 false true false false) := by
  refine returnsInHanded_of_change (C := Try.checked) own started (by kernel_rfl) Try.func8
    (ChangeSpec.witness6 (enc := enc) (C := Try.checked) false ⟨#[], #[.int .i64 0, .int .i64 0, .int .i64 0], []⟩ 8 (by kernel_rfl) (by kernel_rfl) (by kernel_rfl) (by kernel_rfl)) ?_
  intro W base args ds gs before hval0 hW hcnd _
  have hval : ∀ (j : Nat) t v, Try.f8.params[j]? = some t → args[j]? = some v → Value.okWide Try.prog W .any base t v := hval0
  have hW' := hW
  obtain ⟨p, q, hA0, hV, rfl, hfz, hnd⟩ := hW
  have hA : DataW.TrodAll enc Try.prog W 0 (fun _ => true) true Try.f8.params.toList args.toList ds p := hA0
  rw [Try.params8] at hA hval
  obtain ⟨v0, vs0, d0, ds0, p0, q0, hargs, rfl, rfl, h0, r0⟩ := trodAll_cons hA
  obtain ⟨v1, vs1, d1, ds1, p1, q1, rfl, rfl, rfl, h1, r1⟩ := trodAll_cons r0
  obtain ⟨v2, vs2, d2, ds2, p2, q2, rfl, rfl, rfl, h2, r2⟩ := trodAll_cons r1
  obtain ⟨rfl, rfl, rfl⟩ := trodAll_nil r2
  obtain rfl : args = #[v0, v1, v2] := by cases args; simp_all
  obtain ⟨rfl, rfl⟩ := trodVars_none hV
  obtain ⟨a0, rfl, rfl, rfl, w0⟩ := open_int Try.underlying3 (hval 0 3 v0 rfl rfl) h0
  obtain ⟨a1, rfl, rfl, rfl, w1⟩ := open_int Try.underlying3 (hval 1 3 v1 rfl rfl) h1
  obtain ⟨a2, rfl, rfl, rfl, w2⟩ := open_int Try.underlying3 (hval 2 3 v2 rfl rfl) h2
  clear hA0 hval0
  simp only [List.append_nil] at hW'
  refine (walk a0 a1 a2 w0 w1 w2 W).mono fun e W' ⟨he, hg⟩ => ?_
  subst he
  exact ⟨_, rfl, post_of_same (pa := []) (pv := []) hW' (fun _ _ _ => (trodAll_cons_mk (shut_bool Try.underlying4 _) trodAll_mk0)) (fun sp _ => (trodAll_cons_mk (shut_int Try.underlying3 w0) (trodAll_cons_mk (shut_int Try.underlying3 w1) (trodAll_cons_mk (shut_int Try.underlying3 w2) trodAll_mk0)))) (fun _ _ => rfl) rfl
    (hg.frame _) hg.2.1 (ok_one (by kernel_rfl) rfl (okWide_bool_mk Try.underlying4 _))⟩

theorem over : Rows.satOrdersRow.holds Try.pinned (OpenSpec.ofChange Rows.satOrdersSpec) :=
  OpenClaim.holds_of_wide 8 Try.f8 rfl rfl rfl rfl rfl rfl rfl ⟨rfl, rfl, rfl, rfl, rfl⟩ rfl rfl rfl rfl rfl (by kernel_rfl) Try.func8 (by kernel_rfl)
    (of_decide_eq_true (by kernel_rfl)) (by unfold Func.isWrapper; first | (rw [if_pos (by decide +kernel)]; kernel_rfl) | (rw [if_neg (by decide +kernel)]; exact ⟨rfl, rfl⟩))
    (fun os started H enc _ => lifted os started H enc)

theorem proved : Rows.SatOrdersSaid :=
  over
#print axioms proved
end Go.Proofs.Ytjpfgjjohaepcaa.satOrders
