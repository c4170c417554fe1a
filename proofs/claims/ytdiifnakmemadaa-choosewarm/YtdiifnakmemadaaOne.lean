/-
  One of a slice of hosts, as a slice; how many it has in all. No conditions.
-/
import Derived.Test.YtdiifnakmemadaaRAll
namespace Go.Proofs.Ytdiifnakmemadaa
open Go.ChangeShapes Go.WideShapes Go.ChangeAt Go.RowKit

theorem HostsAt.only {w : World} {b off len cap : Nat} {hs : List Hs} (h : HostsAt w (some ⟨b, off, none⟩) len cap hs) {i : Nat} (hi : i < len) : HostsAt w (some ⟨b, off + i * 5, none⟩) 1 (cap - i) [hs.getD i z0] := by
  have h1 := h.hle
  have h2 := h.hcap
  refine ⟨rfl, by omega, by omega, fun j hj => ?_⟩
  obtain rfl : j = 0 := by omega
  obtain ⟨b', off', e, hlt, hx⟩ := h.rd i hi
  cases e
  exact ⟨b, off + i * 5, rfl, hlt, hx⟩
theorem allL_only (h : Hs) : allL [h] = allH h := by
  have h0 := allH_bd h
  show sumS [0, allH h] = allH h
  unfold sumS
  simp only [List.foldl_cons, List.foldl_nil]
  unfold addS
  omega

end Go.Proofs.Ytdiifnakmemadaa
