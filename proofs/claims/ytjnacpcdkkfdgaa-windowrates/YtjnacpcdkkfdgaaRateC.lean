/-
  What Rate and the document's Rate do, as contracts. Conditions: the slice lies where it is said to lie.
-/
import Derived.Test.YtjnacpcdkkfdgaaStrs
namespace Go.Proofs.Ytjnacpcdkkfdgaa
open Go.ChangeShapes Go.WideShapes Go.ChangeAt Go.RowKit

def rateL (s now : Int) (l : List Int) : Nat := l.countP (fun x => lateB x now s)
theorem rate_take (s now : Int) (l : List Int) (i : Nat) (h : i < l.length) : rateL s now (l.take (i + 1)) = rateL s now (l.take i) + (if lateB (l.getD i 0) now s then 1 else 0) := by
  unfold rateL
  rw [List.take_succ_eq_append_getElem h, List.countP_append]
  simp [List.countP_cons, List.getD, List.getElem?_eq_getElem h]
theorem rate_le (s now : Int) (l : List Int) : rateL s now l ≤ l.length := List.countP_le_length
theorem rate_all {s now : Int} (hs : 1 ≤ s) (hn : Tk now) {l : List Int} (hl : ∀ x ∈ l, Tk x) : rateL s now l = (allR s now l).length := by
  unfold rateL allR
  rw [List.countP_eq_length_filter]
  congr 1
  exact List.filter_congr (fun x hx => late_tk hs (hl x hx) hn)
theorem addI_ge {y : Int} (h : Tk y) (v : Int) : y ≤ addI y v ∧ addI y v ≤ 1099511627776 := by
  unfold addI
  have k := cut_cases (cut y + cut v)
  have a1 := h.cut
  have a2 := cut_lo v
  have a3 := h.1
  have a4 := h.2
  omega

set_option maxRecDepth 100000 in
theorem rate_any (a : Option Addr) (n cap : Nat) (zs : List Int) (sp now : Int) (w : World) (hz : IntsAt w a n cap zs) :
    Calls Try.prog 21 #[.slice a n cap, .int .i64 sp, .int .i64 now] w fun e w' => e = .returned (.int .i64 (rateL (spanI sp) now zs)) ∧ w' = w := by
  have h1 := hz.hle
  have h2 := hz.hcap
  unfold maxLen at h2
  have HZ : Hid (IntsAt w a n cap zs) := hz
  have HL : Hid (zs.length = n) := hz.hlen
  clear hz
  go_enter Try.func21, Try.ntmps21
  go_wp2
  go_loopw [7, 12] (fun vn vi wr => ∃ i r : Nat, vi = .int .i64 i ∧ vn = .int .i64 r ∧ i ≤ n ∧ r ≤ i ∧ rateL (spanI sp) now (zs.take i) = r ∧ wr = w) (fun _ vi _ => n - (intOf vi).toNat)
  case atStart => exact ⟨0, 0, rfl, rfl, Nat.zero_le _, Nat.le_refl _, rfl, rfl⟩
  case round =>
    obtain ⟨i, r, rfl, rfl, hi1, hr1, hr, rfl⟩ := hrel
    by_cases hc : i < n
    · obtain ⟨b, off, rfl, -, hcell⟩ := HZ.out.at_ i hc
      have ht := rate_take (spanI sp) now zs i (by rw [HL.out]; exact hc)
      rw [hr] at ht
      have hlt := late_any (zs.getD i 0) now (spanI sp)
      generalize hb : lateB (zs.getD i 0) now (spanI sp) = bl at *
      generalize zs.getD i 0 = x at *
      cases bl with
      | true =>
        have HT : Hid (rateL (spanI sp) now (zs.take (i + 1)) = r + 1) := ht
        clear hb ht hr
        go_wp2_with (first
          | (go_at_call 24; refine (length_any _ _).mono ?_; rintro e w' ⟨rfl, rfl⟩)
          | (go_at_call 31; refine (hlt _).mono ?_; rintro e w' ⟨rfl, rfl⟩))
        exact ⟨⟨i + 1, r + 1, by simp, by simp, by omega, by omega, HT.out, trivial⟩, by simp [intOf]; omega⟩
      | false =>
        have HT : Hid (rateL (spanI sp) now (zs.take (i + 1)) = r) := ht
        clear hb ht hr
        go_wp2_with (first
          | (go_at_call 24; refine (length_any _ _).mono ?_; rintro e w' ⟨rfl, rfl⟩)
          | (go_at_call 31; refine (hlt _).mono ?_; rintro e w' ⟨rfl, rfl⟩))
        exact ⟨⟨i + 1, r, by simp, rfl, by omega, by omega, HT.out, trivial⟩, by simp [intOf]; omega⟩
    · obtain rfl : n = i := by omega
      rw [List.take_of_length_le (by rw [HL.out]; exact Nat.le_refl _)] at hr
      have HR : Hid (rateL (spanI sp) now zs = r) := hr
      clear hr
      go_wp2
      go_ret
      exact ⟨by rw [HR.out]; rfl, rfl⟩

set_option maxRecDepth 100000 in
theorem rrate_any (a : Option Addr) (n cap : Nat) (zs : List Int) (sp now : Int) (w : World) (hz : IntsAt w a n cap zs) :
    Calls Try.prog 22 #[.slice a n cap, .int .i64 sp, .int .i64 now] w fun e w' => e = .returned (.int .i64 (rateL (spanI sp) now zs)) ∧ w' = w := by
  have h1 := hz.hle
  have h2 := hz.hcap
  unfold maxLen at h2
  have HZ : Hid (IntsAt w a n cap zs) := hz
  have HL : Hid (zs.length = n) := hz.hlen
  have hs1 := span_lo sp
  have hs2 := span_hi sp
  clear hz
  go_enter Try.func22, Try.ntmps22
  go_wp2
  go_loopw [7, 8] (fun vn vi wr => ∃ i r : Nat, vi = .int .i64 i ∧ vn = .int .i64 r ∧ i ≤ n ∧ r ≤ i ∧ rateL (spanI sp) now (zs.take i) = r ∧ wr = w) (fun _ vi _ => n - (intOf vi).toNat)
  case atStart => exact ⟨0, 0, rfl, rfl, Nat.zero_le _, Nat.le_refl _, rfl, rfl⟩
  case round =>
    obtain ⟨i, r, rfl, rfl, hi1, hr1, hr, rfl⟩ := hrel
    by_cases hc : i < n
    · obtain ⟨b, off, rfl, -, hcell⟩ := HZ.out.at_ i hc
      have ht := rate_take (spanI sp) now zs i (by rw [HL.out]; exact hc)
      rw [hr] at ht
      have hlt := rlate_any (cut (zs.getD i 0)) (spanI sp) (cut now) (tk_cut _) ⟨hs1, hs2⟩
      rw [← late_same _ _ _ hs1] at hlt
      generalize hb : lateB (zs.getD i 0) now (spanI sp) = bl at *
      generalize zs.getD i 0 = x at *
      cases bl with
      | true =>
        have HT : Hid (rateL (spanI sp) now (zs.take (i + 1)) = r + 1) := ht
        clear hb ht hr
        go_wp2_with (first
          | (go_at_call 26; refine (rcut_any _ _).mono ?_; rintro e w' ⟨rfl, rfl⟩)
          | (go_at_call 25; refine (rspan_any _ _).mono ?_; rintro e w' ⟨rfl, rfl⟩)
          | (go_at_call 28; refine (hlt _).mono ?_; rintro e w' ⟨rfl, rfl⟩))
        exact ⟨⟨i + 1, r + 1, by simp, by simp, by omega, by omega, HT.out, trivial⟩, by simp [intOf]; omega⟩
      | false =>
        have HT : Hid (rateL (spanI sp) now (zs.take (i + 1)) = r) := ht
        clear hb ht hr
        go_wp2_with (first
          | (go_at_call 26; refine (rcut_any _ _).mono ?_; rintro e w' ⟨rfl, rfl⟩)
          | (go_at_call 25; refine (rspan_any _ _).mono ?_; rintro e w' ⟨rfl, rfl⟩)
          | (go_at_call 28; refine (hlt _).mono ?_; rintro e w' ⟨rfl, rfl⟩))
        exact ⟨⟨i + 1, r, by simp, rfl, by omega, by omega, HT.out, trivial⟩, by simp [intOf]; omega⟩
    · obtain rfl : n = i := by omega
      rw [List.take_of_length_le (by rw [HL.out]; exact Nat.le_refl _)] at hr
      have HR : Hid (rateL (spanI sp) now zs = r) := hr
      clear hr
      go_wp2
      go_ret
      exact ⟨by rw [HR.out]; rfl, rfl⟩

end Go.Proofs.Ytjnacpcdkkfdgaa
