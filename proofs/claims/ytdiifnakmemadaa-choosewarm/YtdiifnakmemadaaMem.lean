/-
  Words for what lies in memory: a slice of hosts, a slice of ints, each as a list; how they last while nothing that was there is written, and while one's own row alone is. No conditions.
-/
import Derived.Test.YtdiifnakmemadaaPure
import Derived.WalkKit
import Derived.ProofKit
import Derived.OpenShut
import Derived.WalkLawsBesides
import Derived.WalkSpells
import Derived.Deep.QuietTactic
import Derived.BigQuiet
import Derived.Laws.AppendOwnNone
import Derived.Laws.OwnMore
import Derived.Laws.Rows
namespace Go.Proofs.Ytdiifnakmemadaa
open Go.ChangeShapes Go.WideShapes Go.ChangeAt Go.RowKit

theorem Hid.mk' {p : Prop} (h : p) : Hid p := h
theorem ret_int {k : IntKind} {a b : Int} (h : a = b) : Ending.returned (.int k a) = .returned (.int k b) := by rw [h]
theorem ret_bool {a b : Bool} (h : a = b) : Ending.returned (.bool a) = .returned (.bool b) := by rw [h]

theorem own : ownKnob Try.prog.godebug = none := by kernel_rfl
theorem laidOut : laidOutB Try.prog = true := by kernel_rfl
theorem cells3 : Try.prog.cellsOf 3 = 1 := by kernel_rfl
theorem cells4 : Try.prog.cellsOf 4 = 1 := by kernel_rfl
theorem cells38 : Try.prog.cellsOf 38 = 5 := by kernel_rfl
theorem cells43 : Try.prog.cellsOf 43 = 5 := by kernel_rfl

theorem below_trans {w w1 w2 : World} (h1 : Below w.heap.size w w1) (h2 : Below w1.heap.size w1 w2) : Below w.heap.size w w2 :=
  h1.trans ⟨h2.os, h2.tape, h2.output, h2.size, fun k hk => h2.block k (Nat.lt_of_lt_of_le hk h1.size)⟩
theorem below_drewN (w : World) (q : Nat) : Below w.heap.size w (w.drewN q) := ⟨rfl, rfl, rfl, Nat.le_refl _, fun _ _ => rfl⟩
theorem below_grown {w w1 w2 : World} {B t s n : Nat} {v : Value} {cs : List Value} (hown : w1.ownsRow B t s v n cs) (hg : w1.grownBy w2 v.ownBlock) (hb : Below B w w1) (hB : B ≤ w.heap.size) : Below B w w2 := by
  refine hb.trans ⟨hg.os, hg.tape, hg.output, hg.size, fun k hk => hg.block k (Nat.lt_of_lt_of_le hk (Nat.le_trans hB hb.size)) (fun e => ?_)⟩
  have := (hown.lt k e.symm).1
  omega
theorem lt_of_heap {w : World} {k : Nat} {o : Obj} (h : w.heap[k]? = some o) : k < w.heap.size := (Array.getElem?_eq_some_iff.1 h).1
/-- A row of one's own lasts while nothing that was there is written. -/
theorem owns_below {w w' : World} {base t s n : Nat} {v : Value} {cs : List Value} (h : w.ownsRow base t s v n cs) (hb : Below w.heap.size w w') : w'.ownsRow base t s v n cs := by
  refine ⟨h.1, ?_⟩
  rcases h.2 with h1 | ⟨g, cap, cur, rfl, hbs, hg, r⟩
  · exact .inl h1
  · exact .inr ⟨g, cap, cur, rfl, hbs, (hb.block g (lt_of_heap hg)).trans hg, r⟩

/-- A host as a value. -/
def hv (h : Hs) : Value := .agg #[.int .i64 h.st, .int .i64 h.mg, .int .i64 h.id, .int .i64 h.bz, .bool h.my]
/-- A host's cells lie at block b from o on. -/
def HC (w : World) (b o : Nat) (h : Hs) : Prop :=
  w.cell? ⟨b, o, none⟩ = some (.int .i64 h.st) ∧ w.cell? ⟨b, o + 1, none⟩ = some (.int .i64 h.mg) ∧ w.cell? ⟨b, o + 2, none⟩ = some (.int .i64 h.id) ∧ w.cell? ⟨b, o + 3, none⟩ = some (.int .i64 h.bz) ∧ w.cell? ⟨b, o + 4, none⟩ = some (.bool h.my)
theorem HC.below {w w' : World} {b o : Nat} {h : Hs} (hc : HC w b o h) (hlt : b < w.heap.size) (hb : Below w.heap.size w w') : HC w' b o h := by
  obtain ⟨h0, h1, h2, h3, h4⟩ := hc
  exact ⟨(hb.cell (p := ⟨b, o, none⟩) hlt).trans h0, (hb.cell (p := ⟨b, o + 1, none⟩) hlt).trans h1, (hb.cell (p := ⟨b, o + 2, none⟩) hlt).trans h2, (hb.cell (p := ⟨b, o + 3, none⟩) hlt).trans h3, (hb.cell (p := ⟨b, o + 4, none⟩) hlt).trans h4⟩

/-- The slice (a, len, cap) reads as the hosts hs. -/
structure HostsAt (w : World) (a : Option Addr) (len cap : Nat) (hs : List Hs) : Prop where
  hlen : hs.length = len
  hle : len ≤ cap
  hcap : cap ≤ maxLen
  rd : ∀ j, j < len → ∃ b off, a = some ⟨b, off, none⟩ ∧ b < w.heap.size ∧ HC w b (off + j * 5) (hs.getD j z0)

theorem HostsAt.below {w w' : World} {a : Option Addr} {len cap : Nat} {hs : List Hs} (h : HostsAt w a len cap hs) (hb : Below w.heap.size w w') : HostsAt w' a len cap hs := by
  refine ⟨h.hlen, h.hle, h.hcap, fun j hj => ?_⟩
  obtain ⟨b, off, e, hlt, hc⟩ := h.rd j hj
  exact ⟨b, off, e, Nat.lt_of_lt_of_le hlt hb.size, hc.below hlt hb⟩
theorem HostsAt.nil (w : World) : HostsAt w none 0 0 [] := ⟨rfl, Nat.le_refl _, Nat.zero_le _, fun _ hj => absurd hj (Nat.not_lt_zero _)⟩
theorem HostsAt.drew {w : World} {a : Option Addr} {len cap : Nat} {hs : List Hs} (h : HostsAt w a len cap hs) : HostsAt w.drew a len cap hs := h.below (Below.refl _ _).drew

/-- The slice (a, len, cap) reads as the ints zs. -/
structure IntsAt (w : World) (a : Option Addr) (len cap : Nat) (zs : List Int) : Prop where
  hlen : zs.length = len
  hle : len ≤ cap
  hcap : cap ≤ maxLen
  at_ : ∀ j, j < len → ∃ b off, a = some ⟨b, off, none⟩ ∧ b < w.heap.size ∧ w.cell? ⟨b, off + j, none⟩ = some (.int .i64 (zs.getD j 0))

theorem IntsAt.below {w w' : World} {a : Option Addr} {len cap : Nat} {zs : List Int} (h : IntsAt w a len cap zs) (hb : Below w.heap.size w w') : IntsAt w' a len cap zs := by
  refine ⟨h.hlen, h.hle, h.hcap, fun j hj => ?_⟩
  obtain ⟨b, off, e, hlt, hc⟩ := h.at_ j hj
  exact ⟨b, off, e, Nat.lt_of_lt_of_le hlt hb.size, (hb.cell (p := ⟨b, off + j, none⟩) hlt).trans hc⟩

/-- Ints, laid by the call. -/
theorem one_at (w : World) (x : Int) : IntsAt (w.alloc (.cells #[.int .i64 x] 3)) (some ⟨w.heap.size, 0, none⟩) 1 1 [x] := by
  refine ⟨rfl, Nat.le_refl _, by unfold maxLen; omega, fun j hj => ⟨_, _, rfl, by simp, ?_⟩⟩
  match j, hj with
  | 0, _ => simp [go_sem]
theorem two_at (w : World) (x y : Int) : IntsAt (w.alloc (.cells #[.int .i64 x, .int .i64 y] 3)) (some ⟨w.heap.size, 0, none⟩) 2 2 [x, y] := by
  refine ⟨rfl, Nat.le_refl _, by unfold maxLen; omega, fun j hj => ⟨_, _, rfl, by simp, ?_⟩⟩
  match j, hj with
  | 0, _ => simp [go_sem]
  | 1, _ => simp [go_sem]
theorem three_at (w : World) (x y z : Int) : IntsAt (w.alloc (.cells #[.int .i64 x, .int .i64 y, .int .i64 z] 3)) (some ⟨w.heap.size, 0, none⟩) 3 3 [x, y, z] := by
  refine ⟨rfl, Nat.le_refl _, by unfold maxLen; omega, fun j hj => ⟨_, _, rfl, by simp, ?_⟩⟩
  match j, hj with
  | 0, _ => simp [go_sem]
  | 1, _ => simp [go_sem]
  | 2, _ => simp [go_sem]

end Go.Proofs.Ytdiifnakmemadaa
