/-
  What each call's closure does, and did, which does it or doesn't, each as a contract. Conditions: the connection lies where it is said to lie, and what the closure captured too.
-/
import Derived.Test.YtnbpkjfaopfapaaDoorMem
import Derived.Deep.RegionWith
namespace Go.Proofs.YtnbpkjfaopfapaaDoor
open Go.ChangeShapes Go.WideShapes Go.ChangeAt Go.RowKit

theorem did_no (f : Fn) (u c : Array Value) (w : World) :
    Calls Tryd.prog 41 #[.bool false, .func f u c] w fun e w' => e = .returned (.bool false) ∧ w' = w := by
  go_enter Tryd.func41, Tryd.ntmps41
  go_wp2
  go_ret
  exact ⟨rfl, rfl⟩

section
variable {w : World} {g : Nat} {h : ByteArray} {s : Bk}
theorem BAt.four (hb : BAt w g h s) (x y z u : Int) : BAt ((((w.setCell ⟨g, 3, none⟩ (.int .i64 x)).setCell ⟨g, 4, none⟩ (.int .i64 y)).setCell ⟨g, 5, none⟩ (.int .i64 z)).setCell ⟨g, 6, none⟩ (.int .i64 u)) g h ⟨x, y, z, u, s.bo, s.dl⟩ ∧
    Keep (fun k => k ≠ g) w ((((w.setCell ⟨g, 3, none⟩ (.int .i64 x)).setCell ⟨g, 4, none⟩ (.int .i64 y)).setCell ⟨g, 5, none⟩ (.int .i64 z)).setCell ⟨g, 6, none⟩ (.int .i64 u)) :=
  ⟨Cells7.set6 (Cells7.set5 (Cells7.set4 (Cells7.set3 hb _) _) _) _, ((((Keep.refl _ w).setCell (fun hn => hn rfl) _).setCell (fun hn => hn rfl) _).setCell (fun hn => hn rfl) _).setCell (fun hn => hn rfl) _⟩
theorem BAt.six (hb : BAt w g h s) (u : Int) : BAt (w.setCell ⟨g, 6, none⟩ (.int .i64 u)) g h ⟨s.st, s.si, s.cl, u, s.bo, s.dl⟩ ∧ Keep (fun k => k ≠ g) w (w.setCell ⟨g, 6, none⟩ (.int .i64 u)) :=
  ⟨Cells7.set6 hb _, (Keep.refl _ w).setCell (fun hn => hn rfl) _⟩
theorem BAt.two (hb : BAt w g h s) (x y : Int) : BAt ((w.setCell ⟨g, 1, none⟩ (.int .i64 x)).setCell ⟨g, 2, none⟩ (.int .i64 y)) g h ⟨s.st, s.si, s.cl, s.ow, x, y⟩ ∧ Keep (fun k => k ≠ g) w ((w.setCell ⟨g, 1, none⟩ (.int .i64 x)).setCell ⟨g, 2, none⟩ (.int .i64 y)) :=
  ⟨Cells7.set2 (Cells7.set1 hb _) _, ((Keep.refl _ w).setCell (fun hn => hn rfl) _).setCell (fun hn => hn rfl) _⟩
end

theorem did_thr (c : Array Value) (w : World) (R : World → Prop) (h : Calls Tryd.prog 42 c w fun e w' => e = .returned (.tuple #[]) ∧ R w') :
    Calls Tryd.prog 41 #[.bool true, .func (.func 42) #[] c] w fun e w' => e = .returned (.bool true) ∧ R w' := by
  go_enter Tryd.func41, Tryd.ntmps41
  go_wp2_with (go_at_call 42; refine h.mono ?_; rintro e w' ⟨rfl, hR⟩)
  go_ret
  exact ⟨rfl, hR⟩

theorem did_gre (c : Array Value) (w : World) (R : World → Prop) (h : Calls Tryd.prog 44 c w fun e w' => e = .returned (.tuple #[]) ∧ R w') :
    Calls Tryd.prog 41 #[.bool true, .func (.func 44) #[] c] w fun e w' => e = .returned (.bool true) ∧ R w' := by
  go_enter Tryd.func41, Tryd.ntmps41
  go_wp2_with (go_at_call 44; refine h.mono ?_; rintro e w' ⟨rfl, hR⟩)
  go_ret
  exact ⟨rfl, hR⟩

theorem did_bin (c : Array Value) (w : World) (R : World → Prop) (h : Calls Tryd.prog 45 c w fun e w' => e = .returned (.tuple #[]) ∧ R w') :
    Calls Tryd.prog 41 #[.bool true, .func (.func 45) #[] c] w fun e w' => e = .returned (.bool true) ∧ R w' := by
  go_enter Tryd.func41, Tryd.ntmps41
  go_wp2_with (go_at_call 45; refine h.mono ?_; rintro e w' ⟨rfl, hR⟩)
  go_ret
  exact ⟨rfl, hR⟩

theorem did_sen (c : Array Value) (w : World) (R : World → Prop) (h : Calls Tryd.prog 46 c w fun e w' => e = .returned (.tuple #[]) ∧ R w') :
    Calls Tryd.prog 41 #[.bool true, .func (.func 46) #[] c] w fun e w' => e = .returned (.bool true) ∧ R w' := by
  go_enter Tryd.func41, Tryd.ntmps41
  go_wp2_with (go_at_call 46; refine h.mono ?_; rintro e w' ⟨rfl, hR⟩)
  go_ret
  exact ⟨rfl, hR⟩

theorem did_got (c : Array Value) (w : World) (R : World → Prop) (h : Calls Tryd.prog 48 c w fun e w' => e = .returned (.tuple #[]) ∧ R w') :
    Calls Tryd.prog 41 #[.bool true, .func (.func 48) #[] c] w fun e w' => e = .returned (.bool true) ∧ R w' := by
  go_enter Tryd.func41, Tryd.ntmps41
  go_wp2_with (go_at_call 48; refine h.mono ?_; rintro e w' ⟨rfl, hR⟩)
  go_ret
  exact ⟨rfl, hR⟩

theorem did_fre (c : Array Value) (w : World) (R : World → Prop) (h : Calls Tryd.prog 47 c w fun e w' => e = .returned (.tuple #[]) ∧ R w') :
    Calls Tryd.prog 41 #[.bool true, .func (.func 47) #[] c] w fun e w' => e = .returned (.bool true) ∧ R w' := by
  go_enter Tryd.func41, Tryd.ntmps41
  go_wp2_with (go_at_call 47; refine h.mono ?_; rintro e w' ⟨rfl, hR⟩)
  go_ret
  exact ⟨rfl, hR⟩

theorem did_kil (c : Array Value) (w : World) (R : World → Prop) (h : Calls Tryd.prog 50 c w fun e w' => e = .returned (.tuple #[]) ∧ R w') :
    Calls Tryd.prog 41 #[.bool true, .func (.func 50) #[] c] w fun e w' => e = .returned (.bool true) ∧ R w' := by
  go_enter Tryd.func41, Tryd.ntmps41
  go_wp2_with (go_at_call 50; refine h.mono ?_; rintro e w' ⟨rfl, hR⟩)
  go_ret
  exact ⟨rfl, hR⟩

variable {w : World} {g : Nat} {h : ByteArray} {s : Bk}


set_option maxHeartbeats 1000000 in
set_option maxRecDepth 100000 in
theorem cgre_any (p : Nat) (a : Int) (hp : w.cell? ⟨p, 0, none⟩ = some (.pointer (some ⟨g, 0, none⟩))) (ha : w.cell? ⟨p + 1, 0, none⟩ = some (.int .i64 a)) (h7 : BAt w g h s) :
    Calls Tryd.prog 44 #[.pointer (some ⟨p + 1, 0, none⟩), .pointer (some ⟨p, 0, none⟩)] w fun e w' => e = .returned (.tuple #[]) ∧ BAt w' g h ⟨2, cut a, 0, 0, s.bo, s.dl⟩ ∧ Keep (fun k => k ≠ g) w w' := by
  obtain ⟨⟨c0, c1, c2⟩, c3, c4, c5, c6⟩ := Cells7.cells h7
  have hl := h7.lt
  have f1 := Cells7.fz h7 1
  have f2 := Cells7.fz h7 2
  have f3 := Cells7.fz h7 3
  have f4 := Cells7.fz h7 4
  have f5 := Cells7.fz h7 5
  have f6 := Cells7.fz h7 6
  have HX := Hid.mk' (h7.four 2 (cut a) 0 0)
  clear h7
  go_enter Tryd.func44, Tryd.ntmps44
  go_wp2_with fail
  go_region_with (go_at_call 43; refine (cut_any _ _).mono ?_; rintro e w' ⟨rfl, rfl⟩)
  all_goals
    go_end0
    exact ⟨rfl, HX.out.1, HX.out.2.drew⟩

set_option maxHeartbeats 1000000 in
set_option maxRecDepth 100000 in
theorem cfre_any (p : Nat) (a : Int) (hp : w.cell? ⟨p, 0, none⟩ = some (.pointer (some ⟨g, 0, none⟩))) (ha : w.cell? ⟨p + 1, 0, none⟩ = some (.int .i64 a)) (h7 : BAt w g h s) :
    Calls Tryd.prog 47 #[.pointer (some ⟨p + 1, 0, none⟩), .pointer (some ⟨p, 0, none⟩)] w fun e w' => e = .returned (.tuple #[]) ∧ BAt w' g h ⟨2, cut a, 0, 0, s.bo, s.dl⟩ ∧ Keep (fun k => k ≠ g) w w' := by
  obtain ⟨⟨c0, c1, c2⟩, c3, c4, c5, c6⟩ := Cells7.cells h7
  have hl := h7.lt
  have f1 := Cells7.fz h7 1
  have f2 := Cells7.fz h7 2
  have f3 := Cells7.fz h7 3
  have f4 := Cells7.fz h7 4
  have f5 := Cells7.fz h7 5
  have f6 := Cells7.fz h7 6
  have HX := Hid.mk' (h7.four 2 (cut a) 0 0)
  clear h7
  go_enter Tryd.func47, Tryd.ntmps47
  go_wp2_with fail
  go_region_with (go_at_call 43; refine (cut_any _ _).mono ?_; rintro e w' ⟨rfl, rfl⟩)
  all_goals
    go_end0
    exact ⟨rfl, HX.out.1, HX.out.2.drew⟩

set_option maxRecDepth 100000 in
theorem cbin_any (p : Nat) (a : Int) (hp : w.cell? ⟨p, 0, none⟩ = some (.pointer (some ⟨g, 0, none⟩))) (ha : w.cell? ⟨p + 1, 0, none⟩ = some (.int .i64 a)) (h7 : BAt w g h s) :
    Calls Tryd.prog 45 #[.pointer (some ⟨p + 1, 0, none⟩), .pointer (some ⟨p, 0, none⟩)] w fun e w' => e = .returned (.tuple #[]) ∧ BAt w' g h ⟨3, 0, a, 0, s.bo, s.dl⟩ ∧ Keep (fun k => k ≠ g) w w' := by
  obtain ⟨⟨c0, c1, c2⟩, c3, c4, c5, c6⟩ := Cells7.cells h7
  have hl := h7.lt
  have f1 := Cells7.fz h7 1
  have f2 := Cells7.fz h7 2
  have f3 := Cells7.fz h7 3
  have f4 := Cells7.fz h7 4
  have f5 := Cells7.fz h7 5
  have f6 := Cells7.fz h7 6
  have HX := Hid.mk' (h7.four 3 0 a 0)
  clear h7
  go_enter Tryd.func45, Tryd.ntmps45
  go_wp2
  go_end0
  exact ⟨rfl, HX.out.1, HX.out.2⟩

set_option maxRecDepth 100000 in
theorem csen_any (p : Nat) (hp : w.cell? ⟨p, 0, none⟩ = some (.pointer (some ⟨g, 0, none⟩))) (o0 : 0 ≤ s.ow) (o1 : s.ow ≤ 1000) (h7 : BAt w g h s) :
    Calls Tryd.prog 46 #[.pointer (some ⟨p, 0, none⟩)] w fun e w' => e = .returned (.tuple #[]) ∧ BAt w' g h ⟨s.st, s.si, s.cl, s.ow + 1, s.bo, s.dl⟩ ∧ Keep (fun k => k ≠ g) w w' := by
  obtain ⟨⟨c0, c1, c2⟩, c3, c4, c5, c6⟩ := Cells7.cells h7
  have hl := h7.lt
  have f1 := Cells7.fz h7 1
  have f2 := Cells7.fz h7 2
  have f3 := Cells7.fz h7 3
  have f4 := Cells7.fz h7 4
  have f5 := Cells7.fz h7 5
  have f6 := Cells7.fz h7 6
  have HX := Hid.mk' (h7.six (s.ow + 1))
  clear h7
  go_enter Tryd.func46, Tryd.ntmps46
  go_wp2
  go_end0
  exact ⟨rfl, HX.out.1, HX.out.2⟩

set_option maxRecDepth 100000 in
theorem cgot_any (p : Nat) (hp : w.cell? ⟨p, 0, none⟩ = some (.pointer (some ⟨g, 0, none⟩))) (o0 : 0 ≤ s.ow) (o1 : s.ow ≤ 1000) (h7 : BAt w g h s) :
    Calls Tryd.prog 48 #[.pointer (some ⟨p, 0, none⟩)] w fun e w' => e = .returned (.tuple #[]) ∧ BAt w' g h ⟨s.st, s.si, s.cl, s.ow - 1, s.bo, s.dl⟩ ∧ Keep (fun k => k ≠ g) w w' := by
  obtain ⟨⟨c0, c1, c2⟩, c3, c4, c5, c6⟩ := Cells7.cells h7
  have hl := h7.lt
  have f1 := Cells7.fz h7 1
  have f2 := Cells7.fz h7 2
  have f3 := Cells7.fz h7 3
  have f4 := Cells7.fz h7 4
  have f5 := Cells7.fz h7 5
  have f6 := Cells7.fz h7 6
  have HX := Hid.mk' (h7.six (s.ow - 1))
  clear h7
  go_enter Tryd.func48, Tryd.ntmps48
  go_wp2
  go_end0
  exact ⟨rfl, HX.out.1, HX.out.2⟩

set_option maxRecDepth 100000 in
theorem ckil_any (p : Nat) (hp : w.cell? ⟨p, 0, none⟩ = some (.pointer (some ⟨g, 0, none⟩))) (h7 : BAt w g h s) :
    Calls Tryd.prog 50 #[.pointer (some ⟨p, 0, none⟩)] w fun e w' => e = .returned (.tuple #[]) ∧ BAt w' g h ⟨4, 0, 0, 0, s.bo, s.dl⟩ ∧ Keep (fun k => k ≠ g) w w' := by
  obtain ⟨⟨c0, c1, c2⟩, c3, c4, c5, c6⟩ := Cells7.cells h7
  have hl := h7.lt
  have f1 := Cells7.fz h7 1
  have f2 := Cells7.fz h7 2
  have f3 := Cells7.fz h7 3
  have f4 := Cells7.fz h7 4
  have f5 := Cells7.fz h7 5
  have f6 := Cells7.fz h7 6
  have HX := Hid.mk' (h7.four 4 0 0 0)
  clear h7
  go_enter Tryd.func50, Tryd.ntmps50
  go_wp2
  go_end0
  exact ⟨rfl, HX.out.1, HX.out.2⟩

end Go.Proofs.YtnbpkjfaopfapaaDoor
