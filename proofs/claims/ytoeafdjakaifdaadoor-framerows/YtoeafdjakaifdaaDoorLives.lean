/-
  The document's example answers true; few cuts a frame's text at 1100 bytes; bytes cuts a slice at 300. Condition, of the example: the names' table reads as it is laid.
-/
import Derived.Test.YtoeafdjakaifdaaDoorRead
namespace Go.Proofs.YtoeafdjakaifdaaDoor
open Go.ChangeShapes Go.WideShapes Go.ChangeAt Go.RowKit

theorem conv_owned {w : World} {base n : Nat} {v : Value} {bs : List UInt8} (h : w.ownsRow base 5 1 v n (bc bs)) : (convert 26 9 v).run Tryd.prog w = .ok (.string (mkS bs)) w := by
  have h0 := h
  obtain ⟨hl, hcase⟩ := h
  rw [bc_length, Nat.mul_one] at hl
  rcases hcase with ⟨rfl, rfl⟩ | ⟨g, cap, cur, rfl, _, hg, hn, hcap, _, _⟩
  · have : bs = [] := List.eq_nil_of_length_eq_zero hl
    subst this
    exact run_convert_bytes_nil (P := Tryd.prog) w 26 5 Tryd.underlying26 Tryd.underlying5 0 0 9 Tryd.underlying9
  · have := run_convert_bytes_arg (P := Tryd.prog) w 26 5 Tryd.underlying26 Tryd.underlying5 g 0 n cap (bs.map fun x => (x.toNat : Int)) (by simpa using hl) (fun i hi => by
      have := h0.cells (g := g) rfl i (.int .u8 (bs.getD i 0).toNat) (by
        have : i < bs.length := by omega
        simp [bc, List.getD, this])
      have e0 : ((⟨g, 0, none⟩ : Addr).add i) = ⟨g, 0 + i, none⟩ := by unfold Addr.add; split <;> simp_all
      rw [e0] at this
      rw [this]
      have : i < bs.length := by omega
      simp [List.getD, this]) 9 Tryd.underlying9
    rw [strOf_mkS] at this
    exact this

set_option maxHeartbeats 400000 in
set_option maxRecDepth 100000 in
theorem lives_any (w : World) (hn : Names w) :
    Calls Tryd.prog 9 #[] w fun e w' => e = .returned (.bool true) ∧ Below w.heap.size w w' := by
  have hr : readB (encB ⟨3, ⟨#[97, 98]⟩⟩) 10 = (⟨3, ⟨#[97, 98]⟩⟩, 5, 0) := by kernel_rfl
  have hm : mkS (encB ⟨3, ⟨#[97, 98]⟩⟩) = ⟨#[3, 0, 2, 97, 98]⟩ := by decide
  have hn3 : nm 3 = ⟨#[113, 117, 101, 114, 121]⟩ := by decide
  go_enter Tryd.func9, Tryd.ntmps9
  go_wp2_with fail
  refine (write_ok 3 ⟨#[97, 98]⟩ 10 _ (by decide)).mono ?_
  rintro e w1 ⟨v, rfl, hown, hb1⟩
  have e5 : 3 + (⟨#[97, 98]⟩ : ByteArray).size = 5 := rfl
  rw [e5] at hown
  obtain ⟨a, cap, rfl, hB⟩ := owns_bytes hown
  have hn1 := hn.below hb1
  go_wp2_with fail
  refine (read_any a _ cap _ 10 _ hB).mono ?_
  rintro e w2 ⟨rfl, hb2⟩
  have hn2 := hn1.below hb2
  rw [hr]
  have hcv := fun o => conv_owned (World.ownsRow.alloc (owns_below hown hb2) o)
  rw [hm] at hcv
  clear hB hown hn hn1 e5 hr
  go_wp2_with (first
    | (go_at_call 19; refine (name_any _ _ (hn2.below ((Below.refl _ _).alloc (Nat.le_refl _) _))).mono ?_; rintro e w' ⟨rfl, rfl⟩))
  go_ret
  exact ⟨rfl, (hb1.trans (hb2.mono hb1.size)).alloc (Nat.le_trans hb1.size hb2.size) _⟩

def fewS (s : ByteArray) : ByteArray := s.extract 0 (min s.size 1100)
theorem fewS_size (s : ByteArray) : (fewS s).size ≤ 1100 := by
  unfold fewS
  rw [ByteArray.size_extract]
  omega

set_option maxRecDepth 100000 in
theorem few_any (k : Int) (s : ByteArray) (w : World) (hs : s.size ≤ maxLen) :
    Calls Tryd.prog 10 #[.agg #[.int .i64 k, .string s]] w fun e w' => e = .returned (.agg #[.int .i64 k, .string (fewS s)]) ∧ Below w.heap.size w w' := by
  unfold maxLen at hs
  by_cases h : s.size ≤ 1100
  · have e : fewS s = s := by unfold fewS; rw [Nat.min_eq_left h]; simp
    rw [e]
    clear e
    go_enter Tryd.func10, Tryd.ntmps10
    go_wp2
    exact bodyPost_ret (v := .agg #[.int .i64 k, .string s]) (by simp [results, Tryd.results10, go_sem]) rfl ⟨rfl, ((Below.refl _ _).alloc (Nat.le_refl _) _).alloc (by simp) _⟩
  · have e : fewS s = s.extract 0 1100 := by unfold fewS; rw [Nat.min_eq_right (by omega)]
    rw [e]
    clear e
    go_enter Tryd.func10, Tryd.ntmps10
    go_wp2
    exact bodyPost_ret (v := .agg #[.int .i64 k, .string (s.extract 0 1100)]) (by simp [results, Tryd.results10, go_sem]) rfl ⟨rfl, ((Below.refl _ _).alloc (Nat.le_refl _) _).alloc (by simp) _⟩

theorem bytes_any (a : Option Addr) (len cap : Nat) (w : World) (hl : len ≤ cap) (hs : cap ≤ maxLen) :
    Calls Tryd.prog 21 #[.slice a len cap] w fun e w' => e = .returned (.slice a (min len 300) cap) ∧ w' = w := by
  unfold maxLen at hs
  by_cases h : len ≤ 300
  · rw [Nat.min_eq_left h]
    go_enter Tryd.func21, Tryd.ntmps21
    go_wp2
    go_ret
    exact ⟨rfl, rfl⟩
  · rw [Nat.min_eq_right (by omega)]
    go_enter Tryd.func21, Tryd.ntmps21
    go_wp2
    go_ret
    exact ⟨rfl, rfl⟩

end Go.Proofs.YtoeafdjakaifdaaDoor
