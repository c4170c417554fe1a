/-
  What the document's Has and Same, and its Check, answer, each as a contract. Conditions: the slices read as texts; of Check, that no text is longer than the greatest length.
-/
import Derived.Test.YtmlkpfkeeifgeaaDoorStrs
namespace Go.Proofs.YtmlkpfkeeifgeaaDoor
open Go.ChangeShapes Go.WideShapes Go.ChangeAt Go.RowKit

theorem hasB_snoc {l : List ByteArray} {x y : ByteArray} : hasB (l ++ [y]) x = (hasB l x || decide (y = x)) := by simp [hasB]
theorem hasB_at {l : List ByteArray} {k : Nat} (h : k < l.length) : hasB l (l.getD k ⟨#[]⟩) = true := hasB_iff.2 (getD_mem h)
theorem ne_bytes {f x : ByteArray} (h : ¬ f = x) : (f.toList == x.toList) = false ∧ ¬ f.toList = x.toList := by
  have h1 : (f.toList == x.toList) = false := by rw [beq_toList]; simpa using h
  exact ⟨h1, by simpa using h1⟩

set_option maxRecDepth 100000 in
theorem has_any (a : Option Addr) (len cap : Nat) (ss : List ByteArray) (x : ByteArray) (w : World) (h : StrsAt w a len cap ss) :
    Calls Tryd.prog 26 #[.slice a len cap, .string x] w fun e w' => e = .returned (.bool (hasB ss x)) ∧ w' = w := by
  have hcap := h.hcap
  have hle := h.hle
  unfold maxLen at hcap
  have H : Hid (StrsAt w a len cap ss) := h
  have HL : Hid (ss.length = len) := h.hlen
  clear h
  go_enter Tryd.func26, Tryd.ntmps26
  go_wp2
  go_loopw [5] (fun i wr => ∃ k : Nat, k ≤ len ∧ i = .int .i64 k ∧ Hid (hasB (ss.take k) x = false) ∧ wr = w) (fun i _ => len - (intOf i).toNat)
  case atStart => exact ⟨0, Nat.zero_le _, rfl, Hid.mk' rfl, rfl⟩
  case round =>
    obtain ⟨k, hk, rfl, hA, rfl⟩ := hrel
    by_cases hlt : k < len
    · obtain ⟨b, off, rfl, hb, hc⟩ := H.out.at_ k hlt
      have hkl : k < ss.length := by have := HL.out; omega
      have hkn : (k : Int) < (len : Int) := by omega
      have HY : Hid (ss.getD k ⟨#[]⟩ = x → hasB ss x = true) := fun e => by rw [← e]; exact hasB_at hkl
      have HN : Hid (¬ ss.getD k ⟨#[]⟩ = x → hasB (ss.take (k + 1)) x = false) := fun e => by rw [take_snoc hkl, hasB_snoc, hA.out]; simpa using e
      generalize ss.getD k ⟨#[]⟩ = f at *
      clear hA
      by_cases he : f = x
      · have HH := Hid.mk' (HY.out he)
        subst he
        clear HY HN
        go_wp2
        go_ret
        exact ⟨ret_bool HH.out.symm, rfl⟩
      · obtain ⟨e1, e2⟩ := ne_bytes he
        have HH := Hid.mk' (HN.out he)
        clear HY HN he
        go_wp2
        go_roundw
        case rel => exact ⟨k + 1, by omega, by go_num, HH, trivial⟩
        case measure => simp [intOf]; omega
    · obtain rfl : k = len := by omega
      have HH : Hid (hasB ss x = false) := by
        have := hA.out
        rwa [List.take_of_length_le (by have := HL.out; omega)] at this
      clear hA
      go_wp2
      go_ret
      exact ⟨ret_bool HH.out.symm, rfl⟩

theorem take_eq_snoc {l m : List ByteArray} {k : Nat} (h1 : k < l.length) (h2 : k < m.length) (ht : l.take k = m.take k) (he : l.getD k ⟨#[]⟩ = m.getD k ⟨#[]⟩) : l.take (k + 1) = m.take (k + 1) := by
  rw [take_snoc h1, take_snoc h2, ht, he]

set_option maxHeartbeats 1000000 in
set_option maxRecDepth 100000 in
theorem same_any (a a' : Option Addr) (n n' ca cb : Nat) (l m : List ByteArray) (w : World) (h : StrsAt w a n ca l) (h' : StrsAt w a' n' cb m) :
    Calls Tryd.prog 25 #[.slice a n ca, .slice a' n' cb] w fun e w' => e = .returned (.bool (decide (l = m))) ∧ Below w.heap.size w w' := by
  have hcap := h.hcap
  have hle := h.hle
  have hcap' := h'.hcap
  have hle' := h'.hle
  unfold maxLen at hcap hcap'
  have H : Hid (StrsAt w a n ca l) := h
  have H' : Hid (StrsAt w a' n' cb m) := h'
  have HL : Hid (l.length = n ∧ m.length = n') := ⟨h.hlen, h'.hlen⟩
  clear h h'
  by_cases hnn : n = n'
  · subst hnn
    go_enter Tryd.func25, Tryd.ntmps25
    go_wp2
    go_loopw [5] (fun i wr => ∃ k : Nat, k ≤ n ∧ i = .int .i64 k ∧ Hid (l.take k = m.take k) ∧ Below w.heap.size w wr) (fun i _ => n - (intOf i).toNat)
    case atStart => exact ⟨0, Nat.zero_le _, rfl, Hid.mk' rfl, Below.refl _ _⟩
    case round =>
      obtain ⟨k, hk, rfl, hA, hbel⟩ := hrel
      by_cases hlt : k < n
      · obtain ⟨b, off, rfl, hb, hc⟩ := (H.out.below (Nat.le_refl _) hbel).at_ k hlt
        obtain ⟨b', off', rfl, hb', hc'⟩ := (H'.out.below (Nat.le_refl _) hbel).at_ k hlt
        have k1 : k < l.length := by have := HL.out; omega
        have k2 : k < m.length := by have := HL.out; omega
        have hkn : (k : Int) < (n : Int) := by omega
        have HY : Hid (l.getD k ⟨#[]⟩ = m.getD k ⟨#[]⟩ → l.take (k + 1) = m.take (k + 1)) := fun e => take_eq_snoc k1 k2 hA.out e
        have HN : Hid (¬ l.getD k ⟨#[]⟩ = m.getD k ⟨#[]⟩ → ¬ l = m) := fun e e1 => e (by rw [e1])
        generalize l.getD k ⟨#[]⟩ = f at *
        generalize m.getD k ⟨#[]⟩ = f' at *
        clear H H' hA
        by_cases he : f = f'
        · have HH := Hid.mk' (HY.out he)
          subst he
          clear HY HN
          go_wp2
          go_quiet (fail)
          go_wp2
          go_roundw
          case rel => exact ⟨k + 1, by omega, by go_num, HH, below_drewN hbel _⟩
          case measure => simp [intOf]; omega
        · obtain ⟨e1, e2⟩ := ne_bytes he
          have e3 : (f.toList != f'.toList) = true := by simpa using e2
          have HH := Hid.mk' (HN.out he)
          clear HY HN he
          go_wp2
          go_quiet (fail)
          go_wp2
          go_ret
          exact ⟨ret_bool (decide_eq_false HH.out).symm, below_drewN hbel _⟩
      · obtain rfl : k = n := by omega
        have HH : Hid (l = m) := by
          have := hA.out
          rwa [List.take_of_length_le (by have := HL.out; omega), List.take_of_length_le (by have := HL.out; omega)] at this
        clear hA
        go_wp2
        go_ret
        exact ⟨ret_bool (decide_eq_true HH.out).symm, hbel⟩
  · have HH : Hid (¬ l = m) := fun e => hnn (by have := HL.out; rw [e] at this; omega)
    have hd : ((n : Int) != (n' : Int)) = true := by simp; omega
    have hd2 : ¬ (n : Int) = (n' : Int) := by omega
    go_enter Tryd.func25, Tryd.ntmps25
    go_wp2
    go_ret
    exact ⟨ret_bool (decide_eq_false HH.out).symm, Below.refl _ _⟩

end Go.Proofs.YtmlkpfkeeifgeaaDoor
