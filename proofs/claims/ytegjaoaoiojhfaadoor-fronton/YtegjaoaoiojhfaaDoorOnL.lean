/-
  FrontOn's walk, of any two numbers. Conditions: the tables read as they are laid.
-/
import Derived.Test.YtegjaoaoiojhfaaDoorOnW
namespace Go.Proofs.YtegjaoaoiojhfaaDoor
open Go.ChangeShapes Go.WideShapes Go.ChangeAt Go.RowKit

set_option maxHeartbeats 1000000 in
set_option maxRecDepth 100000 in
theorem on_walk (s k : Int) (w : World) (h : Tabs w) (hn : Nams w) :
    Calls Tryd.prog 4 #[.int .i64 s, .int .i64 k] w fun e w' => e = .returned (.bool true) ∧ Below w.heap.size w w' := by
  have hl := lives_any w h
  have HT := Hid.mk' h
  have HN := Hid.mk' hn
  have HO : Hid (∀ w' : World, Tabs w' → Calls Tryd.prog 21 #[.int .i64 s, .int .i64 k] w' fun e w'' => e = .returned (.tuple #[.int .i64 (onx s k), .int .i64 (onw s k)]) ∧ Below w'.heap.size w' w'') := fun w' h => on_any s k w' h
  have HR : Hid (∀ w' : World, Calls Tryd.prog 22 #[.int .i64 s, .int .i64 k] w' fun e w'' => e = .returned (.tuple #[.int .i64 (onx s k), .int .i64 (onw s k)]) ∧ w'' = w') := fun w' => ron_any s k w'
  generalize onx s k = X at *
  generalize onw s k = W at *
  clear h hn
  go_enter Tryd.func4, Tryd.ntmps4
  go_wp2_with fail
  refine hl.mono ?_
  rintro e w1 ⟨rfl, hb1⟩
  have HT1 := Hid.mk' (HT.out.below hb1)
  have HN1 := Hid.mk' (HN.out.below hb1)
  have HB1 := Hid.mk' hb1
  clear hb1 hl HT HN
  go_wp2_with fail
  refine (HO.out w1 HT1.out).mono ?_
  rintro e w2 ⟨rfl, hb2⟩
  have HN2 := Hid.mk' (HN1.out.below hb2)
  have HB2 : Hid (Below w.heap.size w w2) := HB1.out.trans (hb2.mono HB1.out.size)
  clear hb2 HT1 HN1 HB1
  go_wp2_with fail
  refine (HR.out w2).mono ?_
  rintro e w' ⟨rfl, hw'⟩
  subst w'
  have hn2 := name_any s w2 HN2.out
  have hr2 := rname_any s w2
  generalize nm s = N at *
  go_wp2_with fail
  refine hn2.mono ?_
  rintro e w' ⟨rfl, hw'⟩
  subst w'
  go_wp2_with fail
  refine hr2.mono ?_
  rintro e w3 ⟨rfl, hb3⟩
  have HB3 : Hid (Below w.heap.size w w3) := HB2.out.trans (hb3.mono HB2.out.size)
  clear hb3
  go_wp2
  go_ret
  exact ⟨rfl, HB3.out⟩

end Go.Proofs.YtegjaoaoiojhfaaDoor
