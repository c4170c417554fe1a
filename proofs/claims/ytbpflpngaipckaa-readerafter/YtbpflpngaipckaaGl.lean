/-
  Frames that may be, made of any: the first so many of a list. No conditions.
-/
import Derived.Test.YtbpflpngaipckaaConv
import Derived.Test.YtbpflpngaipckaaCat
import Derived.Test.YtbpflpngaipckaaCuts
import Derived.Test.YtbpflpngaipckaaSame
namespace Go.Proofs.Ytbpflpngaipckaa
open Go.ChangeShapes Go.WideShapes Go.ChangeAt Go.RowKit

/-- A frame that may be, made of any. -/
def gd (f : Fr) : Fr := ⟨1 + f.k % 8, cut40 f.s⟩
theorem gd_fine (f : Fr) : Fine (gd f) := ⟨by show 1 ≤ 1 + f.k % 8; omega, by show 1 + f.k % 8 ≤ 8; omega, cut40_size f.s⟩

/-- The first k, each made one that may be. -/
def gl (fs : List Fr) (k : Nat) : List Fr := (fs.take k).map gd
theorem gl_zero (fs : List Fr) : gl fs 0 = [] := by simp [gl]
theorem gl_snoc (fs : List Fr) (k : Nat) (h : k < fs.length) : gl fs (k + 1) = gl fs k ++ [gd (fs.getD k Fr.zero)] := by
  unfold gl
  rw [List.take_succ_eq_append_getElem h, List.map_append]
  simp [List.getD, h]
theorem gl_fine (fs : List Fr) (k : Nat) : ∀ f ∈ gl fs k, Fine f := by
  intro f hf
  obtain ⟨g, _, rfl⟩ := List.mem_map.1 hf
  exact gd_fine g
theorem gl_length (fs : List Fr) (k : Nat) (h : k ≤ fs.length) : (gl fs k).length = k := by
  unfold gl
  rw [List.length_map, List.length_take]
  omega

theorem FramesAt.dropNe {w : World} {a : Option Addr} {len cap : Nat} {bs : List Fr} (h : FramesAt w a len cap bs) {n : Nat} (hn : n ≤ len) (hc : ¬ cap = n) : FramesAt w (Option.map (fun x => x.add (n * 2)) a) (len - n) (cap - n) (bs.drop n) := by
  have := h.drop hn
  rw [if_neg hc] at this
  exact this

theorem FramesAt.nil (w : World) (a : Option Addr) (cap : Nat) (h : cap ≤ maxLen) : FramesAt w a 0 cap [] := ⟨rfl, Nat.zero_le _, h, fun _ hj => absurd hj (Nat.not_lt_zero _)⟩

end Go.Proofs.Ytbpflpngaipckaa
