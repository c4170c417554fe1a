/-
  SatDue returns true for every three ints: what is past stays past as ticks go by, and of a deadline so many ticks ahead as many are left, up to the last tick. Conditions: none.
-/
import Derived.Test.YtjpfgjjohaepcaaBase
import Derived.WalkKit
import Derived.ProofKit
import Derived.OpenShut
namespace Go.Proofs.Ytjpfgjjohaepcaa.satDue
open Go.ChangeShapes Go.WideShapes Go.ChangeAt Go.RowKit
set_option linter.unusedVariables false

theorem own : ownKnob Try.prog.godebug = none := by kernel_rfl

theorem cut_cases (n : Int) : (n < 0 ∧ cut n = 0) ∨ (1099511627776 < n ∧ cut n = 1099511627776) ∨ (0 ≤ n ∧ n ≤ 1099511627776 ∧ cut n = n) := by
  by_cases h0 : n < 0
  · exact Or.inl ⟨h0, cut_neg h0⟩
  · by_cases h1 : 1099511627776 < n
    · exact Or.inr (Or.inl ⟨h1, cut_big h1⟩)
    · exact Or.inr (Or.inr ⟨by omega, by omega, cut_mid (by omega) (by omega)⟩)

theorem left_add (a s : Int) : sub (add a s) a = min (cut s) (1099511627776 - cut a) := by
  have a1 := cut_lo a
  have a2 := cut_hi a
  have b1 := cut_lo s
  have b2 := cut_hi s
  unfold sub add
  have h1 := cut_cases (cut a + cut s)
  have h2 := cut_cases (cut (cut a + cut s))
  have h3 := cut_cases (cut (cut (cut a + cut s)) - cut a)
  omega

theorem past_iff (a s : Int) : past a (add a s) = decide (sub (add a s) a = 0) := by
  have a1 := cut_lo a
  have a2 := cut_hi a
  have b1 := cut_lo s
  have b2 := cut_hi s
  unfold sub add past
  have h1 := cut_cases (cut a + cut s)
  have h2 := cut_cases (cut (cut a + cut s))
  have h3 := cut_cases (cut (cut (cut a + cut s)) - cut a)
  rw [decide_eq_decide]
  omega

theorem past_stays (a d m : Int) (h : past a d = true) : past (add a m) d = true := by
  unfold past add at *
  have h := of_decide_eq_true h
  have a1 := cut_lo a
  have a2 := cut_hi a
  have b1 := cut_lo m
  have b2 := cut_hi m
  have h1 := cut_cases (cut a + cut m)
  have h2 := cut_cases (cut (cut a + cut m))
  exact decide_eq_true (by omega)

theorem past_last (d : Int) : past 1099511627776 d = true := by
  have e : cut 1099511627776 = 1099511627776 := cut_mid (by omega) (by omega)
  have := cut_hi d
  unfold past
  exact decide_eq_true (by omega)

theorem past_self (d : Int) : past d d = true := by unfold past; exact decide_eq_true (Int.le_refl _)

theorem walk (a0 : Int) (a1 : Int) (a2 : Int) (w0 : (Lit.int .i64 a0).wf = true) (w1 : (Lit.int .i64 a1).wf = true) (w2 : (Lit.int .i64 a2).wf = true) (w : World) :
    Calls Try.prog 6 #[.int .i64 a0, .int .i64 a1, .int .i64 a2] w fun e w' => e = .returned (.bool true) ∧ Grown w w' := by
  have c1 := cut_lo a0
  have c2 := cut_hi a0
  have p1 := past_last (add a0 a1)
  have p2 := past_self (add a0 a1)
  have q := past_iff a0 a1
  have lf := left_add a0 a1
  have st := past_stays a0 (add a0 a1) a2
  generalize hd : add a0 a1 = d at *
  generalize hl : sub d a0 = l at *
  have LF : Hid (l = min (cut a1) (1099511627776 - cut a0)) := lf
  clear lf
  by_cases hz : l = 0
  · have hp : past a0 d = true := by rw [q]; simpa using hz
    have hs : past (add a0 a2) d = true := st hp
    clear q st
    go_enter Try.func6, Try.ntmps6
    go_wp2_with (first
    | (go_at_call 9; refine (lives_any _).mono ?_; rintro e w' ⟨rfl, rfl⟩)
    | (go_at_call 10; refine (cut_any _ _).mono ?_; rintro e w' ⟨rfl, rfl⟩)
    | (go_at_call 12; refine (add_any _ _ _).mono ?_; rintro e w' ⟨rfl, rfl⟩)
    | (go_at_call 16; refine (past_any _ _ _).mono ?_; rintro e w' ⟨rfl, rfl⟩)
    | (go_at_call 18; refine (left_any _ _ _).mono ?_; rintro e w' ⟨rfl, rfl⟩))
    all_goals first
      | (exfalso; have := LF.out; omega)
      | (go_ret; exact ⟨rfl, (Grown.refl _).alloc _ _⟩)
  · have hz' : (l == 0) = false := by simpa using hz
    have hp : past a0 d = false := by rw [q]; simpa using hz
    clear q st
    go_enter Try.func6, Try.ntmps6
    go_wp2_with (first
    | (go_at_call 9; refine (lives_any _).mono ?_; rintro e w' ⟨rfl, rfl⟩)
    | (go_at_call 10; refine (cut_any _ _).mono ?_; rintro e w' ⟨rfl, rfl⟩)
    | (go_at_call 12; refine (add_any _ _ _).mono ?_; rintro e w' ⟨rfl, rfl⟩)
    | (go_at_call 16; refine (past_any _ _ _).mono ?_; rintro e w' ⟨rfl, rfl⟩)
    | (go_at_call 18; refine (left_any _ _ _).mono ?_; rintro e w' ⟨rfl, rfl⟩))
    all_goals first
      | (exfalso; have := LF.out; omega)
      | (go_ret; exact ⟨rfl, (Grown.refl _).alloc _ _⟩)

set_option maxRecDepth 100000 in
theorem lifted (os : Os) (started : os.Started) (H : Type) (enc : TypeId × Value → H) :
    ReturnsInHanded {} Try.checked os 6 .any (Rows.satDueSpec.pre6 enc Try.prog Try.f6 Rows.satDueRow.domain false) (Rows.satDueSpec.post enc Try.prog Try.f6 false true false false) := by
  refine returnsInHanded_of_change (C := Try.checked) own started (by kernel_rfl) Try.func6
    (ChangeSpec.witness6 (enc := enc) (C := Try.checked) false ⟨#[], #[.int .i64 0, .int .i64 0, .int .i64 0], []⟩ 8 (by kernel_rfl) (by kernel_rfl) (by kernel_rfl) (by kernel_rfl)) ?_
  intro W base args ds gs before hval0 hW hcnd _
  have hval : ∀ (j : Nat) t v, Try.f6.params[j]? = some t → args[j]? = some v → Value.okWide Try.prog W .any base t v := hval0
  have hW' := hW
  obtain ⟨p, q, hA0, hV, rfl, hfz, hnd⟩ := hW
  have hA : DataW.TrodAll enc Try.prog W 0 (fun _ => true) true Try.f6.params.toList args.toList ds p := hA0
  rw [Try.params6] at hA hval
  obtain ⟨v0, vs0, d0, ds0, p0, q0, hargs, rfl, rfl, h0, r0⟩ := trodAll_cons hA
  obtain ⟨v1, vs1, d1, ds1, p1, q1, rfl, rfl, rfl, h1, r1⟩ := trodAll_cons r0
  obtain ⟨v2, vs2, d2, ds2, p2, q2, rfl, rfl, rfl, h2, r2⟩ := trodAll_cons r1
  obtain ⟨rfl, rfl, rfl⟩ := trodAll_nil r2
  obtain rfl : args = #[v0, v1, v2] := by cases args; simp_all
  obtain ⟨rfl, rfl⟩ := trodVars_none hV
  obtain ⟨a0, rfl, rfl, rfl, w0⟩ := open_int Try.underlying3 (hval 0 3 v0 rfl rfl) h0
  obtain ⟨a1, rfl, rfl, rfl, w1⟩ := open_int Try.underlying3 (hval 1 3 v1 rfl rfl) h1
  obtain ⟨a2, rfl, rfl, rfl, w2⟩ := open_int Try.underlying3 (hval 2 3 v2 rfl rfl) h2
  clear hA0 hval0
  simp only [List.append_nil] at hW'
  refine (walk a0 a1 a2 w0 w1 w2 W).mono fun e W' ⟨he, hg⟩ => ?_
  subst he
  exact ⟨_, rfl, post_of_same (pa := []) (pv := []) hW' (fun _ _ _ => (trodAll_cons_mk (shut_bool Try.underlying4 _) trodAll_mk0)) (fun sp _ => (trodAll_cons_mk (shut_int Try.underlying3 w0) (trodAll_cons_mk (shut_int Try.underlying3 w1) (trodAll_cons_mk (shut_int Try.underlying3 w2) trodAll_mk0)))) (fun _ _ => rfl) rfl
    (hg.frame _) hg.2.1 (ok_one (by kernel_rfl) rfl (okWide_bool_mk Try.underlying4 _))⟩

theorem over : Rows.satDueRow.holds Try.pinned (OpenSpec.ofChange Rows.satDueSpec) :=
  OpenClaim.holds_of_wide 6 Try.f6 rfl rfl rfl rfl rfl rfl rfl ⟨rfl, rfl, rfl, rfl, rfl⟩ rfl rfl rfl rfl rfl (by kernel_rfl) Try.func6 (by kernel_rfl)
    (of_decide_eq_true (by kernel_rfl)) (by unfold Func.isWrapper; first | (rw [if_pos (by decide +kernel)]; kernel_rfl) | (rw [if_neg (by decide +kernel)]; exact ⟨rfl, rfl⟩))
    (fun os started H enc _ => lifted os started H enc)

theorem proved : Rows.SatDueSaid :=
  over
#print axioms proved
end Go.Proofs.Ytjpfgjjohaepcaa.satDue
