/-
  Saturated sums of lists, plain mathematics and contracts: sat.Sum and the document's own Sum return the saturated sum of the cells of the slice and leave the world as it was. Conditions: the slice's cells read as the listed ints (or there are none).
-/
import Derived.Test.YtjpfgjjohaepcaaBase
namespace Go.Proofs.Ytjpfgjjohaepcaa
open Go.ChangeShapes Go.WideShapes Go.ChangeAt Go.RowKit

theorem cut_cases (n : Int) : (n < 0 ∧ cut n = 0) ∨ (1099511627776 < n ∧ cut n = 1099511627776) ∨ (0 ≤ n ∧ n ≤ 1099511627776 ∧ cut n = n) := by
  by_cases h0 : n < 0
  · exact Or.inl ⟨h0, cut_neg h0⟩
  · by_cases h1 : 1099511627776 < n
    · exact Or.inr (Or.inl ⟨h1, cut_big h1⟩)
    · exact Or.inr (Or.inr ⟨by omega, by omega, cut_mid (by omega) (by omega)⟩)

def sumL (s : Int) (l : List Int) : Int := l.foldl add s

def tot : List Int → Int
  | [] => 0
  | x :: r => cut x + tot r

theorem tot_lo (l : List Int) : 0 ≤ tot l := by
  induction l with
  | nil => exact Int.le_refl _
  | cons x r ih => have := cut_lo x; simp only [tot]; omega

theorem tot_append (l m : List Int) : tot (l ++ m) = tot l + tot m := by
  induction l with
  | nil => simp [tot]
  | cons x r ih => simp only [List.cons_append, tot, ih]; omega

theorem tot_reverse (l : List Int) : tot l.reverse = tot l := by
  induction l with
  | nil => rfl
  | cons x r ih => rw [List.reverse_cons, tot_append, ih]; simp only [tot]; omega

theorem sumL_eq (l : List Int) : ∀ s, 0 ≤ s → s ≤ 1099511627776 → sumL s l = min (s + tot l) 1099511627776 := by
  induction l with
  | nil => intro s h0 h1; simp only [sumL, List.foldl_nil, tot]; omega
  | cons x r ih =>
    intro s h0 h1
    have e : sumL s (x :: r) = sumL (add s x) r := rfl
    have c := cut_mid h0 h1
    have k := cut_cases (cut s + cut x)
    have l1 := cut_lo x
    have t := tot_lo r
    have a1 := cut_lo (cut s + cut x)
    have a2 := cut_hi (cut s + cut x)
    have f : add s x = cut (cut s + cut x) := rfl
    rw [e, f, ih _ a1 a2]
    simp only [tot]
    omega

theorem sumL_snoc (s : Int) (l : List Int) (x : Int) : sumL s (l ++ [x]) = add (sumL s l) x := by
  simp [sumL, List.foldl_append]

theorem sumL_reverse (l : List Int) : sumL 0 l.reverse = sumL 0 l := by
  rw [sumL_eq _ 0 (by omega) (by omega), sumL_eq _ 0 (by omega) (by omega), tot_reverse]

theorem sumL_take (s : Int) (zs : List Int) (k : Nat) (hk : k < zs.length) : sumL s (zs.take (k + 1)) = add (sumL s (zs.take k)) (zs.getD k 0) := by
  rw [List.take_succ_eq_append_getElem hk, sumL_snoc]
  simp [List.getD, List.getElem?_eq_getElem hk]

/-- The slice `a`, of `len` ints, reads as the list `zs`. -/
def Reads (w : World) (a : Option Addr) (len : Nat) (zs : List Int) : Prop :=
  zs.length = len ∧ ∀ j, j < len → ∃ b off, a = some ⟨b, off, none⟩ ∧ w.cell? ⟨b, off + j, none⟩ = some (.int .i64 (zs.getD j 0))

set_option maxHeartbeats 400000 in
theorem sum_any (a : Option Addr) (len cap : Nat) (zs : List Int) (w : World) (hl : len ≤ maxLen) (hr : Reads w a len zs) :
    Calls Try.prog 19 #[.slice a len cap] w fun e w' => e = .returned (.int .i64 (sumL 0 zs)) ∧ w' = w := by
  obtain ⟨hz, hc⟩ := hr
  unfold maxLen at hl
  go_enter Try.func19, Try.ntmps19
  go_wp2
  go_loop [3, 8] (fun s i => ∃ k : Nat, k ≤ len ∧ i = .int .i64 k ∧ s = .int .i64 (sumL 0 (zs.take k))) (fun _ i => len - (intOf i).toNat)
  case atStart => exact ⟨0, Nat.zero_le _, rfl, rfl⟩
  case round =>
    obtain ⟨k, hk, rfl, rfl⟩ := hrel
    by_cases hlt : k < len
    · obtain ⟨b, off, rfl, hcell⟩ := hc k hlt
      obtain ⟨x, hx⟩ : ∃ x, x = zs.getD k 0 := ⟨_, rfl⟩
      have HS : Hid (sumL 0 (zs.take (k + 1)) = add (sumL 0 (zs.take k)) x) := by rw [hx]; exact sumL_take 0 zs k (by omega)
      rw [← hx] at hcell
      clear hc hx
      go_wp2_with (go_at_call 12; refine (add_any _ _ _).mono ?_; rintro e w' ⟨rfl, rfl⟩)
      go_round
      case rel => exact ⟨k + 1, by omega, by go_num, by rw [HS.out]⟩
      case measure => simp [intOf]; omega
    · go_wp2
      go_ret
      exact ⟨ret_int (by rw [List.take_of_length_le (by omega)]), rfl⟩

set_option maxHeartbeats 400000 in
theorem rsum_any (a : Option Addr) (len cap : Nat) (zs : List Int) (w : World) (hl : len ≤ maxLen) (hr : Reads w a len zs) :
    Calls Try.prog 20 #[.slice a len cap] w fun e w' => e = .returned (.int .i64 (sumL 0 zs)) ∧ w' = w := by
  obtain ⟨hz, hc⟩ := hr
  unfold maxLen at hl
  go_enter Try.func20, Try.ntmps20
  go_wp2
  go_loop [3, 4] (fun s i => ∃ k : Nat, k ≤ len ∧ i = .int .i64 k ∧ s = .int .i64 (sumL 0 (zs.take k))) (fun _ i => len - (intOf i).toNat)
  case atStart => exact ⟨0, Nat.zero_le _, rfl, rfl⟩
  case round =>
    obtain ⟨k, hk, rfl, rfl⟩ := hrel
    by_cases hlt : k < len
    · obtain ⟨b, off, rfl, hcell⟩ := hc k hlt
      obtain ⟨x, hx⟩ : ∃ x, x = zs.getD k 0 := ⟨_, rfl⟩
      have HS : Hid (sumL 0 (zs.take (k + 1)) = add (sumL 0 (zs.take k)) x) := by rw [hx]; exact sumL_take 0 zs k (by omega)
      rw [← hx] at hcell
      clear hc hx
      go_wp2_with (go_at_call 13; refine (radd_any _ _ _).mono ?_; rintro e w' ⟨rfl, rfl⟩)
      go_round
      case rel => exact ⟨k + 1, by omega, by go_num, by rw [HS.out]⟩
      case measure => simp [intOf]; omega
    · go_wp2
      go_ret
      exact ⟨ret_int (by rw [List.take_of_length_le (by omega)]), rfl⟩

end Go.Proofs.Ytjpfgjjohaepcaa
