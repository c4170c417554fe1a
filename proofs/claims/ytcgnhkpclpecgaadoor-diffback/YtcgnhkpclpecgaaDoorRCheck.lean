/-
  What the document's Check answers, as a contract. Conditions: the slice reads as texts; no text is longer than the greatest length.
-/
import Derived.Test.YtcgnhkpclpecgaaDoorSmall
namespace Go.Proofs.YtcgnhkpclpecgaaDoor
open Go.ChangeShapes Go.WideShapes Go.ChangeAt Go.RowKit

theorem quiet2_same {P : Program} {f : FuncId} {args : Array Value} {w : World} {n m : Nat} {v : Value}
    (h : Calls P f args (w.drewN (n + m)) fun e w' => e = .returned v ∧ w' = w.drewN (n + m)) : Calls P f args (w.drewN (n + m)) fun e w'' => e = .returned v ∧ ∃ k, w'' = w.drewN (n + k) :=
  h.mono fun _ _ ⟨he, hm⟩ => ⟨he, m, hm⟩
theorem quiet1_same {P : Program} {f : FuncId} {args : Array Value} {w : World} {m : Nat} {v : Value}
    (h : Calls P f args (w.drewN m) fun e w' => e = .returned v ∧ w' = w.drewN m) : Calls P f args (w.drewN m) fun e w'' => e = .returned v ∧ ∃ k, w'' = w.drewN k :=
  h.mono fun _ _ ⟨he, hm⟩ => ⟨he, m, hm⟩
theorem nodup_snoc {l : List ByteArray} {x : ByteArray} : (l ++ [x]).Nodup ↔ l.Nodup ∧ x ∉ l := by
  simp only [List.Nodup, List.pairwise_append, List.pairwise_cons, List.mem_cons, List.not_mem_nil, or_false]
  constructor
  · rintro ⟨h1, _, h3⟩
    exact ⟨h1, fun hx => h3 x hx x rfl rfl⟩
  · rintro ⟨h1, h2⟩
    refine ⟨h1, ⟨fun _ h => absurd h (by simp), List.Pairwise.nil⟩, fun a ha b hb e => ?_⟩
    subst hb
    subst e
    exact h2 ha
theorem names_snoc {l : List ByteArray} {k : Nat} (h : k < l.length) (ha : (l.take k).all nameB = true) (hb : nameB (l.getD k ⟨#[]⟩) = true) : (l.take (k + 1)).all nameB = true := by
  rw [take_snoc h, List.all_append, ha, List.all_cons, hb]
  rfl
theorem chk_long {l : List ByteArray} (h : 16 < l.length) : chk l = 13 := by unfold chk; rw [if_pos h]
theorem chk_name {l : List ByteArray} (h : ¬ 16 < l.length) {k : Nat} (hk : k < l.length) (hb : nameB (l.getD k ⟨#[]⟩) = false) : chk l = 11 := by
  unfold chk
  rw [if_neg h, if_neg]
  intro ha
  rw [List.all_eq_true.1 ha _ (getD_mem hk)] at hb
  cases hb
theorem chk_twice {l : List ByteArray} (h : ¬ 16 < l.length) (ha : l.all nameB = true) (hn : ¬ l.Nodup) : chk l = 6 := by
  unfold chk
  rw [if_neg h, if_pos ha, if_neg hn]
theorem chk_good {l : List ByteArray} (h : ¬ 16 < l.length) (ha : l.all nameB = true) (hn : l.Nodup) : chk l = 0 := by
  unfold chk
  rw [if_neg h, if_pos ha, if_pos hn]
theorem nodup_take {l : List ByteArray} (h : l.Nodup) (k : Nat) : (l.take k).Nodup := List.Pairwise.sublist (List.take_sublist k l) h
theorem StrsAt.drewN {w : World} {a : Option Addr} {len cap : Nat} {ss : List ByteArray} (h : StrsAt w a len cap ss) (j : Nat) : StrsAt (w.drewN j) a len cap ss := h.below (Nat.le_refl _) (below_drewN (Below.refl _ _) j)

set_option maxHeartbeats 1000000 in
set_option maxRecDepth 100000 in
theorem rcheck_any (a : Option Addr) (len cap : Nat) (ss : List ByteArray) (w : World) (h : StrsAt w a len cap ss) (hsz : ∀ s ∈ ss, s.size ≤ maxLen) :
    Calls Tryd.prog 17 #[.slice a len cap] w fun e w' => e = .returned (.int .i64 (chk ss)) ∧ Below w.heap.size w w' := by
  have hcap := h.hcap
  have hle := h.hle
  unfold maxLen at hcap
  have H : Hid (StrsAt w a len cap ss) := h
  have HL : Hid (ss.length = len) := h.hlen
  have HS : Hid (∀ s ∈ ss, s.size ≤ maxLen) := hsz
  clear h hsz
  by_cases h16 : 16 < len
  · have h16' : (16 : Int) < (len : Int) := by omega
    have HH : Hid (chk ss = 13) := chk_long (by rw [HL.out]; exact h16)
    go_enter Tryd.func17, Tryd.ntmps17
    go_wp2
    go_ret
    exact ⟨ret_int HH.out.symm, Below.refl _ _⟩
  · have h16' : (len : Int) ≤ 16 := by omega
    have H16 : Hid (¬ 16 < ss.length) := Hid.mk' (by rw [HL.out]; exact h16)
    go_enter Tryd.func17, Tryd.ntmps17
    go_wp2
    go_loopw [3] (fun i wr => ∃ k : Nat, k ≤ len ∧ i = .int .i64 k ∧ Hid ((ss.take k).all nameB = true) ∧ wr = w) (fun i _ => len - (intOf i).toNat)
    case atStart => exact ⟨0, Nat.zero_le _, rfl, Hid.mk' rfl, rfl⟩
    case round =>
      obtain ⟨k, hk, rfl, hA, rfl⟩ := hrel
      by_cases hlt : k < len
      · obtain ⟨b, off, rfl, hb, hc⟩ := H.out.at_ k hlt
        have hkl : k < ss.length := by have := HL.out; omega
        have hkn : (k : Int) < (len : Int) := by omega
        have hnm := rname_any (ss.getD k ⟨#[]⟩) (HS.out _ (getD_mem hkl)) wr
        have HY : Hid (nameB (ss.getD k ⟨#[]⟩) = true → (ss.take (k + 1)).all nameB = true) := fun e => names_snoc hkl hA.out e
        have HN : Hid (nameB (ss.getD k ⟨#[]⟩) = false → chk ss = 11) := fun e => chk_name H16.out hkl e
        generalize ss.getD k ⟨#[]⟩ = f at *
        clear hA
        cases hr : nameB f with
        | true =>
          have HH := Hid.mk' (HY.out hr)
          rw [hr] at hnm
          clear HY HN hr
          go_wp2_with (go_at_call 10; refine hnm.mono ?_; rintro e w' ⟨rfl, rfl⟩)
          go_roundw
          case rel => exact ⟨k + 1, by omega, by go_num, HH, trivial⟩
          case measure => simp [intOf]; omega
        | false =>
          have HH := Hid.mk' (HN.out hr)
          rw [hr] at hnm
          clear HY HN hr
          go_wp2_with (go_at_call 10; refine hnm.mono ?_; rintro e w' ⟨rfl, rfl⟩)
          go_ret
          exact ⟨ret_int HH.out.symm, Below.refl _ _⟩
      · obtain rfl : k = len := by omega
        have HA : Hid (ss.all nameB = true) := by
          have := hA.out
          rwa [List.take_of_length_le (by have := HL.out; omega)] at this
        clear hA
        go_wp2
        go_loopw [5] (fun i w2 => ∃ j : Nat, j ≤ k ∧ i = .int .i64 j ∧ Hid ((ss.take j).Nodup) ∧ Below wr.heap.size wr w2) (fun i _ => k - (intOf i).toNat)
        case atStart => exact ⟨0, Nat.zero_le _, rfl, Hid.mk' (by simp), Below.refl _ _⟩
        case round =>
          obtain ⟨j, hj, rfl, hD, hbel⟩ := hrel
          by_cases hjl : j < k
          · have hS := H.out.below (Nat.le_refl _) hbel
            have hjs : j < ss.length := by have := HL.out; omega
            obtain ⟨b, off, rfl, hb, hc⟩ := hS.at_ j hjl
            have hjn : (j : Int) < (k : Int) := by omega
            have hjc : (j : Int) ≤ (cap : Int) := by omega
            have hh : ∀ (f : ByteArray) (q : Nat), Calls Tryd.prog 25 #[.slice (some ⟨b, off, none⟩) j cap, .string f] (_ : World) _ := fun f q => has_any _ _ _ _ f (World.drewN _ q) ((hS.take (Nat.le_of_lt hjl)).drewN q)
            have HY : Hid (hasB (ss.take j) (ss.getD j ⟨#[]⟩) = true → chk ss = 6) := fun e => chk_twice H16.out HA.out (fun hn => by
              have := nodup_take hn (j + 1)
              rw [take_snoc hjs, nodup_snoc] at this
              exact this.2 (hasB_iff.1 e))
            have HN : Hid (hasB (ss.take j) (ss.getD j ⟨#[]⟩) = false → (ss.take (j + 1)).Nodup) := fun e => by
              rw [take_snoc hjs, nodup_snoc]
              exact ⟨hD.out, hasB_not.1 e⟩
            generalize ss.getD j ⟨#[]⟩ = f at *
            have hhf := hh f
            clear hD hh hS
            cases hr : hasB (ss.take j) f with
            | true =>
              have HH := Hid.mk' (HY.out hr)
              rw [hr] at hhf
              clear HY HN hr
              go_wp2
              go_quiet (first | (go_at_call 25; exact quiet1_same (hhf _)))
              go_wp2
              go_ret
              exact ⟨ret_int HH.out.symm, below_drewN hbel _⟩
            | false =>
              have HH := Hid.mk' (HN.out hr)
              rw [hr] at hhf
              clear HY HN hr
              go_wp2
              go_quiet (first | (go_at_call 25; exact quiet1_same (hhf _)))
              go_wp2
              go_roundw
              case rel => exact ⟨j + 1, by omega, by go_num, HH, below_drewN hbel _⟩
              case measure => simp [intOf]; omega
          · obtain rfl : j = k := by omega
            have HH : Hid (chk ss = 0) := by
              have := hD.out
              rw [List.take_of_length_le (by have := HL.out; omega)] at this
              exact chk_good H16.out HA.out this
            clear hD
            go_wp2
            go_ret
            exact ⟨ret_int HH.out.symm, hbel⟩

end Go.Proofs.YtcgnhkpclpecgaaDoor
