/-
  What the closure of Through does. Conditions: the connection lies where it is said to lie, and what the closure captured too.
-/
import Derived.Test.YtnbpkjfaopfapaaDoorClo
import Derived.Deep.RegionHeld3
namespace Go.Proofs.YtnbpkjfaopfapaaDoor
open Go.ChangeShapes Go.WideShapes Go.ChangeAt Go.RowKit

/-- What the region needs all through it. -/
def TS (w : World) (g p : Nat) (a b : Int) : Prop := w.cell? ⟨p, 0, none⟩ = some (.pointer (some ⟨g, 0, none⟩)) ∧ w.cell? ⟨p + 1, 0, none⟩ = some (.int .i64 a) ∧ w.cell? ⟨p + 2, 0, none⟩ = some (.int .i64 b) ∧ w.frozen? ⟨g, 1, none⟩ = false ∧ w.frozen? ⟨g, 2, none⟩ = false ∧ g < w.heap.size
theorem fr_set {w : World} {g o k : Nat} {v : Value} (h : w.frozen? ⟨g, o, none⟩ = false) : (w.setCell ⟨g, k, none⟩ v).frozen? ⟨g, o, none⟩ = false := by
  rw [← h]
  simp
theorem TS.set {w : World} {g p k : Nat} {a b : Int} {v : Value} (h : TS w g p a b) (hpg : g < p) : TS (w.setCell ⟨g, k, none⟩ v).drew g p a b := by
  obtain ⟨h1, h2, h3, h4, h5, h6⟩ := h
  have hk : Keep (fun k => k ≠ g) w (w.setCell ⟨g, k, none⟩ v) := (Keep.refl _ w).setCell (fun hn => hn rfl) _
  exact ⟨hk.cell h1 (by show p ≠ g; omega), hk.cell h2 (by show p + 1 ≠ g; omega), hk.cell h3 (by show p + 2 ≠ g; omega), fr_set h4, fr_set h5, Nat.lt_of_lt_of_le h6 hk.size⟩

variable {w : World} {g : Nat} {h : ByteArray} {s : Bk}

set_option maxRecDepth 100000 in
theorem cthr_any (p : Nat) (a b : Int) (hp : w.cell? ⟨p, 0, none⟩ = some (.pointer (some ⟨g, 0, none⟩))) (ha : w.cell? ⟨p + 1, 0, none⟩ = some (.int .i64 a)) (hb : w.cell? ⟨p + 2, 0, none⟩ = some (.int .i64 b)) (hpg : g < p) (h7 : BAt w g h s) :
    Calls Tryd.prog 42 #[.pointer (some ⟨p + 1, 0, none⟩), .pointer (some ⟨p + 2, 0, none⟩), .pointer (some ⟨p, 0, none⟩)] w fun e w' => e = .returned (.tuple #[]) ∧ BAt w' g h ⟨1, 0, 0, 0, cut a, cut b⟩ ∧ Keep (fun k => k ≠ g) w w' := by
  obtain ⟨⟨c0, c1, c2⟩, c3, c4, c5, c6⟩ := Cells7.cells h7
  have hl := h7.lt
  have f1 := Cells7.fz h7 1
  have f2 := Cells7.fz h7 2
  have f3 := Cells7.fz h7 3
  have f4 := Cells7.fz h7 4
  have f5 := Cells7.fz h7 5
  have f6 := Cells7.fz h7 6
  have HX := Hid.mk' (h7.two (cut a) (cut b))
  clear h7
  go_enter Tryd.func42, Tryd.ntmps42
  go_wp2_with fail
  have HG : Hid (g < p) := hpg
  have HS1 : Hid (w.drew.cell? ⟨p, 0, none⟩ = some (.pointer (some ⟨g, 0, none⟩)) ∧ w.drew.cell? ⟨p + 1, 0, none⟩ = some (.int .i64 a) ∧ w.drew.cell? ⟨p + 2, 0, none⟩ = some (.int .i64 b) ∧ w.drew.frozen? ⟨g, 1, none⟩ = false ∧ w.drew.frozen? ⟨g, 2, none⟩ = false ∧ g < w.drew.heap.size) := ⟨hp, ha, hb, f1, f2, hl⟩
  have hS := HS1.out
  go_region_held3 (fun w' => w'.cell? ⟨p, 0, none⟩ = some (.pointer (some ⟨g, 0, none⟩)) ∧ w'.cell? ⟨p + 1, 0, none⟩ = some (.int .i64 a) ∧ w'.cell? ⟨p + 2, 0, none⟩ = some (.int .i64 b) ∧ w'.frozen? ⟨g, 1, none⟩ = false ∧ w'.frozen? ⟨g, 2, none⟩ = false ∧ g < w'.heap.size)
    (first | assumption | exact TS.set (by assumption) HG.out | go_keep)
    (first | (go_at_call 43; refine (cut_any _ _).mono ?_; rintro e w' ⟨rfl, rfl⟩))
  have HT : Hid (TS ((w.setCell ⟨g, 1, none⟩ (.int .i64 (cut a))).setCell ⟨g, 2, none⟩ (.int .i64 (cut b))).drew g p a b) := by assumption
  clear hS HS1
  generalize (w.setCell ⟨g, 1, none⟩ (.int .i64 (cut a))).setCell ⟨g, 2, none⟩ (.int .i64 (cut b)) = w5 at *
  clear c0 c1 c2 c3 c4 c5 c6 hl f1 f2 f3 f4 f5 f6 hp ha hb
  have hb5 : BAt w5.drew g h ⟨s.st, s.si, s.cl, s.ow, cut a, cut b⟩ := HX.out.1
  have HK := Hid.mk' (HX.out.2.drew)
  have HY := Hid.mk' (hb5.four 1 0 0 0)
  obtain ⟨⟨c0, c1, c2⟩, c3, c4, c5, c6⟩ := Cells7.cells hb5
  have hl := hb5.lt
  have f3 := Cells7.fz hb5 3
  have f4 := Cells7.fz hb5 4
  have f5 := Cells7.fz hb5 5
  have f6 := Cells7.fz hb5 6
  obtain ⟨hp, ha, hb, -⟩ := HT.out
  clear HX hb5 HT
  generalize w5.drew = w6 at *
  go_wp2
  go_end0
  exact ⟨rfl, HY.out.1, HK.out.trans HY.out.2⟩

end Go.Proofs.YtnbpkjfaopfapaaDoor
