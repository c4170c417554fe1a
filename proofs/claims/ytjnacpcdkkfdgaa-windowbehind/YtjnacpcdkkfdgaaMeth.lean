/-
  What New, Len, Last, Reset, and behind and cut (by which Count strikes what is not of late any more) do, each as a contract, of nil too. Conditions: the window lies where it is said to lie; it has at most 1001 ticks.
-/
import Derived.Test.YtjnacpcdkkfdgaaMem
namespace Go.Proofs.Ytjnacpcdkkfdgaa
open Go.ChangeShapes Go.WideShapes Go.ChangeAt Go.RowKit

theorem new_any (n : Int) (w : World) :
    Calls Try.prog 9 #[.int .i64 n] w fun e w' => e = .returned (.pointer (some ⟨w.heap.size, 0, none⟩)) ∧ WAt w' (fun k => k < w.heap.size) w.heap.size (spanI n) 0 [] ∧ Below w.heap.size w w' ∧ w'.heap.size = w.heap.size + 1 := by
  go_enter Try.func9, Try.ntmps9
  go_wp2_with (go_at_call 24; refine (length_any _ _).mono ?_; rintro e w' ⟨rfl, rfl⟩)
  go_ret
  exact ⟨rfl, ⟨⟨none, 0, heap_alloc_new _ _, TIn.nil _ _⟩, Nat.lt_irrefl _, fun k hk => by simp; omega⟩, (Below.refl _ _).alloc (Nat.le_refl _) _, by simp⟩

theorem len_nil (w : World) : Calls Try.prog 20 #[.pointer none] w fun e w' => e = .returned (.int .i64 0) ∧ w' = w := by
  go_enter Try.func20, Try.ntmps20
  go_wp2
  go_ret
  exact ⟨rfl, rfl⟩
theorem last_nil (w : World) : Calls Try.prog 19 #[.pointer none] w fun e w' => e = .returned (.tuple #[.int .i64 0, .bool false]) ∧ w' = w := by
  go_enter Try.func19, Try.ntmps19
  go_wp2_with (first | (go_at_call 20; refine (len_nil _).mono ?_; rintro e w' ⟨rfl, rfl⟩))
  go_ret2
  exact ⟨rfl, rfl⟩
theorem reset_nil (w : World) : Calls Try.prog 17 #[.pointer none] w fun e w' => e = .returned (.tuple #[]) ∧ w' = w := by
  go_enter Try.func17, Try.ntmps17
  go_wp2
  refine bodyPost_ret (results_none rfl _ _ _) rfl ?_
  exact ⟨rfl, rfl⟩
theorem count_nil (n : Int) (w : World) : Calls Try.prog 16 #[.pointer none, .int .i64 n] w fun e w' => e = .returned (.int .i64 0) ∧ w' = w := by
  go_enter Try.func16, Try.ntmps16
  go_wp2
  go_ret
  exact ⟨rfl, rfl⟩
theorem add_nil (n : Int) (w : World) : Calls Try.prog 14 #[.pointer none, .int .i64 n] w fun e w' => e = .returned (.int .i64 0) ∧ w' = w := by
  go_enter Try.func14, Try.ntmps14
  go_wp2
  go_ret
  exact ⟨rfl, rfl⟩

theorem len_w (w : World) (A : Nat → Prop) (g : Nat) (s t : Int) (L : List Int) (h : WAt w A g s t L) :
    Calls Try.prog 20 #[.pointer (some ⟨g, 0, none⟩)] w fun e w' => e = .returned (.int .i64 L.length) ∧ w' = w := by
  obtain ⟨a, cap, hb, _⟩ := h.ex
  obtain ⟨c0, c1, c2, hl⟩ := blk3 hb
  clear hb h
  go_enter Try.func20, Try.ntmps20
  go_wp2
  go_ret
  exact ⟨rfl, rfl⟩

theorem last_none (w : World) (A : Nat → Prop) (g : Nat) (s t : Int) (h : WAt w A g s t []) :
    Calls Try.prog 19 #[.pointer (some ⟨g, 0, none⟩)] w fun e w' => e = .returned (.tuple #[.int .i64 0, .bool false]) ∧ w' = w := by
  go_enter Try.func19, Try.ntmps19
  go_wp2_with (first | (go_at_call 20; refine (len_w _ A g s t [] h).mono ?_; rintro e w' ⟨rfl, rfl⟩))
  go_ret2
  exact ⟨rfl, rfl⟩

set_option maxRecDepth 100000 in
theorem last_some (w : World) (A : Nat → Prop) (g : Nat) (s t : Int) (L : List Int) (h : WAt w A g s t L) (h0 : 0 < L.length) :
    Calls Try.prog 19 #[.pointer (some ⟨g, 0, none⟩)] w fun e w' => e = .returned (.tuple #[.int .i64 (lastI L), .bool true]) ∧ ∃ q, w' = w.drewN q := by
  have hlen := len_w w A g s t L h
  obtain ⟨a, cap, hb, ht⟩ := h.ex
  obtain ⟨c0, c1, c2, hl⟩ := blk3 hb
  have hle := ht.le
  have hcp := ht.max
  unfold maxLen at hcp
  obtain ⟨b, off, rfl, _, _, _, h2⟩ := ht.at_ (by omega)
  have hc := h2 (L.length - 1) (by omega)
  rw [last_nth] at hc
  obtain ⟨m, hm⟩ : ∃ m, L.length = m + 1 := ⟨L.length - 1, by omega⟩
  rw [hm] at hc c2 hlen hle
  rw [Nat.add_sub_cancel] at hc
  have hne : (((m + 1 : Nat) : Int) == 0) = false := by rw [beq_eq_false_iff_ne]; omega
  have hx1 : (0 : Int) ≤ ((m + 1 : Nat) : Int) - 1 := by omega
  have hx2 : ((m + 1 : Nat) : Int) - 1 < ((m + 1 : Nat) : Int) := by omega
  have hx3 : (((m + 1 : Nat) : Int) - 1).toNat = m := by omega
  clear h2 ht hb h h0 hm
  go_enter Try.func19, Try.ntmps19
  go_wp2_with (first | (go_at_call 20; refine hlen.mono ?_; rintro e w' ⟨rfl, rfl⟩))
  go_quiet (fail)
  go_wp2
  go_ret2
  exact ⟨rfl, _, rfl⟩

theorem last_w (w : World) (A : Nat → Prop) (g : Nat) (s t : Int) (L : List Int) (h : WAt w A g s t L) :
    Calls Try.prog 19 #[.pointer (some ⟨g, 0, none⟩)] w fun e w' => e = .returned (.tuple #[.int .i64 (lastI L), .bool (decide (0 < L.length))]) ∧ ∃ q, w' = w.drewN q := by
  by_cases h0 : 0 < L.length
  · rw [decide_eq_true h0]
    exact last_some w A g s t L h h0
  · obtain rfl : L = [] := List.length_eq_zero_iff.1 (by omega)
    exact (last_none w A g s t h).mono fun e w' ⟨he, hw⟩ => ⟨he, 0, by rw [hw]; rfl⟩

theorem reset_w (w : World) (A : Nat → Prop) (g : Nat) (s t : Int) (L : List Int) (h : WAt w A g s t L) :
    Calls Try.prog 17 #[.pointer (some ⟨g, 0, none⟩)] w fun e w' => e = .returned (.tuple #[]) ∧ WAt w' A g s t [] ∧ Keep A w w' := by
  obtain ⟨a, cap, hb, _⟩ := h.ex
  obtain ⟨c0, c1, c2, hl⟩ := blk3 hb
  have hf := fz3 hb 2
  go_enter Try.func17, Try.ntmps17
  go_wp2
  go_end0
  exact ⟨rfl, ⟨⟨none, 0, (heap_set3 hb).2.2, TIn.nil _ _⟩, h.gout, fun k hk => by simpa using h.guard k hk⟩, (Keep.refl A w).setCell h.gout _⟩

set_option maxRecDepth 100000 in
theorem behind_w (w : World) (A : Nat → Prop) (g : Nat) (s t : Int) (L : List Int) (h : WAt w A g s t L) (hL : L.length ≤ 1001) :
    Calls Try.prog 30 #[.pointer (some ⟨g, 0, none⟩)] w fun e w' => e = .returned (.int .i64 (behN s t L)) ∧ ∃ q, w' = w.drewN q := by
  obtain ⟨a, cap, hb, ht⟩ := h.ex
  obtain ⟨c0, c1, c2, hl⟩ := blk3 hb
  have hle := ht.le
  have hcp := ht.max
  unfold maxLen at hcp
  have HT : Hid (TIn w (fun k => A k ∨ k = g) a L.length cap L) := ht
  have hN := behN_le s t L
  have HN : Hid (∀ j, j < behN s t L → lateB (L.getD j 0) t s = false) := behN_lt s t L
  have HA : Hid (behN s t L < L.length → lateB (L.getD (behN s t L) 0) t s = true) := behN_at s t L
  generalize behN s t L = N at *
  generalize L.length = n at *
  clear hb ht h
  go_enter Try.func30, Try.ntmps30
  go_wp2
  go_loopw [10] (fun vi wr => ∃ i q : Nat, vi = .int .i64 i ∧ i ≤ N ∧ wr = w.drewN q) (fun vi _ => N + 1 - (intOf vi).toNat)
  case atStart => exact ⟨0, 0, rfl, Nat.zero_le _, rfl⟩
  case round =>
    obtain ⟨i, q, rfl, hi1, rfl⟩ := hrel
    by_cases hc : i < n
    · obtain ⟨b, off, rfl, _, _, _, h2⟩ := HT.out.at_ (by omega)
      have hx := h2 i hc
      by_cases hc1 : i < N
      · have hb := HN.out i hc1
        have hlt := late_any (L.getD i 0) t s
        rw [hb] at hlt
        generalize L.getD i 0 = x at *
        clear h2 hb
        go_wp2
        go_quiet (first | (go_at_call 31; exact quiet2_same (hlt _)))
        go_wp2
        exact ⟨⟨i + 1, _, by simp, by omega, rfl⟩, by simp [intOf]; omega⟩
      · obtain rfl : N = i := by omega
        have hb := HA.out hc
        have hlt := late_any (L.getD N 0) t s
        rw [hb] at hlt
        generalize L.getD N 0 = x at *
        clear h2 hb
        go_wp2
        go_quiet (first | (go_at_call 31; exact quiet2_same (hlt _)))
        go_wp2
        go_ret
        exact ⟨rfl, _, World.drewN_drewN _ _ _⟩
    · obtain rfl : n = i := by omega
      obtain rfl : N = n := by omega
      go_wp2
      go_ret
      exact ⟨rfl, _, rfl⟩

theorem cut_none (w : World) (g : Nat) :
    Calls Try.prog 29 #[.pointer (some ⟨g, 0, none⟩), .int .i64 0] w fun e w' => e = .returned (.tuple #[]) ∧ w' = w := by
  go_enter Try.func29, Try.ntmps29
  go_wp2
  refine bodyPost_ret (results_none rfl _ _ _) rfl ?_
  exact ⟨rfl, rfl⟩

/-- Room is left up to m; some are left. -/
theorem cut_some (w : World) (A : Nat → Prop) (g : Nat) (s t : Int) (L : List Int) (h : WAt w A g s t L) (hL : L.length ≤ 1001) (k : Nat) (h0 : 0 < k) (hk : k < L.length) :
    Calls Try.prog 29 #[.pointer (some ⟨g, 0, none⟩), .int .i64 k] w fun e w' => e = .returned (.tuple #[]) ∧ WAt w' A g s t (L.drop k) ∧ Keep A w w' := by
  obtain ⟨a, cap, hb, ht⟩ := h.ex
  obtain ⟨c0, c1, c2, hl⟩ := blk3 hb
  have hf := fz3 hb 2
  have hle := ht.le
  have hcp := ht.max
  unfold maxLen at hcp
  obtain ⟨b, off, rfl, -⟩ := ht.at_ (by omega)
  have hend : ∀ m : Nat, L.length ≤ m → m ≤ cap → WAt (w.setCell ⟨g, 2, none⟩ (.slice (some ⟨b, off + k, none⟩) (L.length - k) (m - k))) A g s t (L.drop k) := by
    intro m hm1 hm2
    refine ⟨⟨some ⟨b, off + k, none⟩, m - k, ?_, ?_⟩, h.gout, fun k hk => by simpa using h.guard k hk⟩
    · rw [List.length_drop]; exact (heap_set3 hb).2.2
    · rw [List.length_drop]
      refine (ht.cut k m (by omega) hm1 hm2 (some ⟨b, off + k, none⟩) (fun _ => rfl)).move (by simp) (fun x hx _ => ⟨heap_setCell_other w _ x _ (fun e => hx (.inr e)), hx⟩)
  have HE : Hid (∀ m : Nat, L.length ≤ m → m ≤ cap → WAt (w.setCell ⟨g, 2, none⟩ (.slice (some ⟨b, off + k, none⟩) (L.length - k) (m - k))) A g s t (L.drop k)) := hend
  have HKP : Hid (∀ v, Keep A w (w.setCell ⟨g, 2, none⟩ v)) := fun v => (Keep.refl A w).setCell h.gout _
  clear hend ht hb h
  generalize L.length = n at *
  have hne : ((k : Int) == 0) = false := by rw [beq_eq_false_iff_ne]; omega
  rcases Nat.lt_trichotomy cap (n + n - k) with hc | hc | hc
  · go_enter Try.func29, Try.ntmps29
    go_wp2
    go_end0
    exact ⟨rfl, HE.out _ (by omega) (by omega), HKP.out _⟩
  · go_enter Try.func29, Try.ntmps29
    go_wp2
    go_end0
    exact ⟨rfl, HE.out _ (by omega) (by omega), HKP.out _⟩
  · go_enter Try.func29, Try.ntmps29
    go_wp2
    go_end0
    exact ⟨rfl, HE.out _ (by omega) (by omega), HKP.out _⟩

/-- None is left. -/
theorem cut_all (w : World) (A : Nat → Prop) (g : Nat) (s t : Int) (L : List Int) (h : WAt w A g s t L) (hL : L.length ≤ 1001) (h0 : 0 < L.length) :
    Calls Try.prog 29 #[.pointer (some ⟨g, 0, none⟩), .int .i64 L.length] w fun e w' => e = .returned (.tuple #[]) ∧ WAt w' A g s t [] ∧ Keep A w w' := by
  obtain ⟨a, cap, hb, ht⟩ := h.ex
  obtain ⟨c0, c1, c2, hl⟩ := blk3 hb
  have hf := fz3 hb 2
  have hle := ht.le
  have hcp := ht.max
  unfold maxLen at hcp
  have HE : Hid (∀ a, WAt (w.setCell ⟨g, 2, none⟩ (.slice a 0 0)) A g s t []) := fun a =>
    ⟨⟨a, 0, (heap_set3 hb).2.2, ⟨rfl, Nat.le_refl _, Nat.zero_le _, fun h => absurd h (Nat.lt_irrefl _)⟩⟩, h.gout, fun k hk => by simpa using h.guard k hk⟩
  have HKP : Hid (∀ v, Keep A w (w.setCell ⟨g, 2, none⟩ v)) := fun v => (Keep.refl A w).setCell h.gout _
  clear ht hb h
  generalize L.length = n at *
  have hne : ((n : Int) == 0) = false := by rw [beq_eq_false_iff_ne]; omega
  have hnn : (n : Int) + n - n = n := by omega
  rcases Nat.lt_trichotomy n cap with hc | hc | hc
  · go_enter Try.func29, Try.ntmps29
    go_wp2
    go_end0
    exact ⟨rfl, HE.out _, HKP.out _⟩
  · go_enter Try.func29, Try.ntmps29
    go_wp2
    go_end0
    exact ⟨rfl, HE.out _, HKP.out _⟩
  · omega

theorem cut_w (w : World) (A : Nat → Prop) (g : Nat) (s t : Int) (L : List Int) (h : WAt w A g s t L) (hL : L.length ≤ 1001) (k : Nat) (hk : k ≤ L.length) :
    Calls Try.prog 29 #[.pointer (some ⟨g, 0, none⟩), .int .i64 k] w fun e w' => e = .returned (.tuple #[]) ∧ WAt w' A g s t (L.drop k) ∧ Keep A w w' := by
  by_cases h0 : k = 0
  · subst h0
    exact (cut_none w g).mono fun e w' ⟨he, hw⟩ => ⟨he, by rw [hw]; exact h, by rw [hw]; exact Keep.refl _ _⟩
  · by_cases h1 : k = L.length
    · subst h1
      rw [List.drop_length]
      exact cut_all w A g s t L h hL (by omega)
    · exact cut_some w A g s t L h hL k (by omega) (by omega)

end Go.Proofs.Ytjnacpcdkkfdgaa
