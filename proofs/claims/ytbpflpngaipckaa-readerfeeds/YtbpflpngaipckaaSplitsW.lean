/-
  The walk of ReaderSplits: it returns true and turns nothing that was there. Conditions: the slice reads as ints; the text is no longer than the greatest length.
-/
import Derived.Test.YtbpflpngaipckaaLives
import Derived.Test.YtbpflpngaipckaaJoin
namespace Go.Proofs.Ytbpflpngaipckaa
open Go.ChangeShapes Go.WideShapes Go.ChangeAt Go.RowKit

/-- Split, its pieces by a name, and what they are together. -/
theorem split_named (b : ByteArray) (a : Option Addr) (len cap : Nat) (zs : List Int) (w : World) (h : IntsAt w a len cap zs) (h20 : len ≤ 20) (hb : b.size ≤ 2000) :
    Calls Try.prog 20 #[.string b, .slice a len cap] w fun e w' => ∃ a' c' ps, e = .returned (.slice a' ps.length c') ∧ ps = splitB b zs ∧ joinB ps = b.data.toList ∧ StrsAt w' a' ps.length c' ps ∧ (∀ x, a' = some x → w.heap.size ≤ x.block ∧ x.block < w'.heap.size) ∧ Below w.heap.size w w' := by
  refine (split_any b a len cap zs w h h20 hb).mono ?_
  rintro e w' ⟨v, rfl, ho, hb⟩
  obtain ⟨a', c', rfl, hS, hx⟩ := owns_strs ho
  exact ⟨a', c', _, rfl, rfl, join_split b zs, hS, hx, hb⟩
theorem rsplit_named (b : ByteArray) (a : Option Addr) (len cap : Nat) (zs : List Int) (w : World) (h : IntsAt w a len cap zs) (h20 : len ≤ 20) (hb : b.size ≤ 2000) :
    Calls Try.prog 22 #[.string b, .slice a len cap] w fun e w' => ∃ a' c' ps, e = .returned (.slice a' ps.length c') ∧ ps = splitB b zs ∧ StrsAt w' a' ps.length c' ps ∧ Below w.heap.size w w' := by
  refine (rsplit_any b a len cap zs w h h20 hb).mono ?_
  rintro e w' ⟨v, rfl, ho, hb⟩
  obtain ⟨a', c', rfl, hS, _⟩ := owns_strs ho
  exact ⟨a', c', _, rfl, rfl, hS, hb⟩

theorem add_snoc {ps : List ByteArray} {k : Nat} {S : ByteArray} (hS : S = mkS (joinB (ps.take k))) (hk : k < ps.length) : S ++ ps.getD k ⟨#[]⟩ = mkS (joinB (ps.take (k + 1))) := by
  rw [hS, mkS_append, joinB_snoc ps k hk]
theorem add_size {ps : List ByteArray} {k m : Nat} {S : ByteArray} (hS : S = mkS (joinB (ps.take k))) (hk : k < ps.length) (hm : (joinB ps).length ≤ m) : S.size + (ps.getD k ⟨#[]⟩).size ≤ m := by
  have h1 := joinB_take_len ps (k + 1)
  rw [joinB_snoc ps k hk, List.length_append, data_len] at h1
  rw [hS, mkS_size]
  omega
theorem join_end {ps : List ByteArray} {k : Nat} {S B : ByteArray} (hS : S = mkS (joinB (ps.take k))) (hk : ps.length ≤ k) (hj : joinB ps = B.data.toList) : S = B := by
  rw [hS, List.take_of_length_le hk, hj, mkS_of]

set_option maxHeartbeats 4000000 in
set_option maxRecDepth 100000 in
theorem splits_any (s : ByteArray) (a : Option Addr) (len cap : Nat) (zs : List Int) (w : World) (hs : s.size ≤ maxLen) (hI0 : IntsAt w a len cap zs) :
    Calls Try.prog 5 #[.string s, .slice a len cap] w fun e w' => e = .returned (.bool true) ∧ Below w.heap.size w w' := by
  have hcap := hI0.hcap
  have hle := hI0.hle
  unfold maxLen at hcap hs
  rcases (show s.size ≤ 200 ∨ (200 : Int) < (s.size : Int) by omega) with h1 | h1 <;> rcases (show len ≤ 20 ∨ (20 : Int) < (len : Int) by omega) with h2 | h2
  all_goals
    go_enter Try.func5, Try.ntmps5
    go_wp2_with fail
    refine (lives_any w).mono ?_
    rintro e w1 ⟨rfl, hb1⟩
    go_wp2_with fail
    first
      | (have hI : IntsAt w1 a len cap zs ∧ len ≤ 20 := ⟨hI0.below hb1, h2⟩; obtain ⟨hI, hM⟩ := hI)
      | (have hI : IntsAt w1 a 20 cap (zs.take 20) ∧ 20 ≤ 20 := ⟨(hI0.below hb1).take (by omega), Nat.le_refl _⟩; obtain ⟨hI, hM⟩ := hI)
    first
      | (have hB : s.size ≤ 200 := h1)
      | (have hB : (s.extract 0 200).size ≤ 200 := by rw [ByteArray.size_extract]; omega)
    refine (split_named _ _ _ _ _ w1 hI hM (by omega)).mono ?_
    rintro e w2 ⟨a2, c2, ps, rfl, hps, hj, hS2, _, hb2⟩
    have hI2 := hI.below hb2
    have B2 : Below w.heap.size w w2 := hb1.trans (hb2.mono hb1.size)
    have hjl : (joinB ps).length ≤ 200 := by rw [hj, data_len]; exact hB
    have HPS := (show Hid _ from hps)
    have HJ := (show Hid _ from hj)
    have H2 : Hid (StrsAt w2 a2 ps.length c2 ps) := hS2
    have hc2 := hS2.hcap
    have hl2 := hS2.hle
    unfold maxLen at hc2
    clear hps hj hS2 hI hb1 hb2 hI0 h1 h2 hs hcap hle
    generalize hn : ps.length = n at hc2 hl2 H2
    go_wp2
    go_loopw [6, 7] (fun acc i wr => ∃ (k : Nat) (S : ByteArray), k ≤ n ∧ i = .int .i64 k ∧ acc = .string S ∧ Hid (S = mkS (joinB (ps.take k))) ∧ wr = w2)
      (fun _ i _ => n - (intOf i).toNat)
    case atStart => exact ⟨0, _, Nat.zero_le _, rfl, rfl, rfl, rfl⟩
    case round =>
      obtain ⟨k, S, hk, rfl, rfl, hS, rfl⟩ := hrel
      by_cases hlt : k < n
      · obtain ⟨b, off, rfl, hb, hc⟩ := H2.out.at_ k hlt
        have hkn : (k : Int) < (n : Int) := by omega
        have had := add_snoc hS.out (by omega)
        have hsz := add_size hS.out (by omega) hjl
        generalize ps.getD k ⟨#[]⟩ = f at hc had hsz
        have HT : Hid (S ++ f = mkS (joinB (ps.take (k + 1)))) := had
        clear had hS
        go_wp2
        go_roundw
        case rel => exact ⟨k + 1, _, by omega, by go_num, rfl, HT, by simp⟩
        case measure => simp [intOf]; omega
      · have hSB := join_end hS.out (by omega) HJ.out
        subst hSB
        obtain rfl : k = n := by omega
        clear hlt hS HJ hjl
        go_wp2_with fail
        refine (rsplit_named _ _ _ _ _ _ hI2 hM (by omega)).mono ?_
        rintro e w3 ⟨a3, c3, ps3, rfl, hps3, hS3, hb3⟩
        obtain rfl : ps3 = ps := hps3.trans HPS.out.symm
        have H3 := H2.out.below hb3
        rw [hn] at hS3 ⊢
        clear hps3 HPS hI2 H2
        go_wp2_with (first | (go_at_call 21; refine (same_strs _ _ _ _ _ _ _ H3 hS3).mono ?_; rintro e w4 ⟨rfl, hb4⟩))
        go_ret
        exact ⟨rfl, (B2.trans (hb3.mono B2.size)).trans (hb4.mono (Nat.le_trans B2.size hb3.size))⟩

end Go.Proofs.Ytbpflpngaipckaa
