/-
  What Read does, the program's and the document's own, at a slice that reads as a list of bytes: what the plain function readB says; nothing that was there is turned. Condition: the slice reads as those bytes.
-/
import Derived.Test.YtbpflpngaipckaaHead
namespace Go.Proofs.Ytbpflpngaipckaa
open Go.ChangeShapes Go.WideShapes Go.ChangeAt Go.RowKit

/-- The text of the bytes from the place 3 on. -/
theorem conv_mid {w : World} {b off len cap m c' : Nat} {bs : List UInt8} (h : BytesAt w (some ⟨b, off, none⟩) len cap bs) (hm : 3 + m ≤ len) :
    (convert 50 9 (.slice (some ⟨b, off + 3, none⟩) m c')).run Try.prog w = .ok (.string (mkS ((bs.drop 3).take m))) w := by
  have := run_convert_bytes_arg (P := Try.prog) w 50 5 Try.underlying50 Try.underlying5 b (off + 3) m c' (((bs.drop 3).take m).map fun x => (x.toNat : Int)) (by simp [h.hlen]; omega) (fun i hi => by
    obtain ⟨b', off', e, _, hc⟩ := h.at_ (3 + i) (by omega)
    cases e
    have e1 : off + 3 + i = off + (3 + i) := by omega
    rw [e1, hc]
    have hl := h.hlen
    have h3 : 3 + i < bs.length := by omega
    simp [List.getD, hi, h3]) 9 Try.underlying9
  rw [strOf_mkS] at this
  exact this

theorem conv_none {w : World} {b off c' : Nat} : (convert 50 9 (.slice (some ⟨b, off, none⟩) 0 c')).run Try.prog w = .ok (.string (mkS [])) w := by
  have := run_convert_bytes_arg (P := Try.prog) w 50 5 Try.underlying50 Try.underlying5 b off 0 c' [] rfl (fun i hi => absurd hi (Nat.not_lt_zero _)) 9 Try.underlying9
  exact this

set_option maxHeartbeats 400000 in
set_option maxRecDepth 100000 in
theorem read_any (a : Option Addr) (len cap : Nat) (bs : List UInt8) (c : Int) (w : World) (h : BytesAt w a len cap bs) :
    Calls Try.prog 30 #[.slice a len cap, .int .i64 c] w fun e w' => e = .returned (.tuple #[.agg #[.int .i64 (readB bs c).1.k, .string (readB bs c).1.s], .int .i64 (readB bs c).2.1, .int .i64 (readB bs c).2.2]) ∧ Below w.heap.size w w' := by
  have hcap := h.hcap
  have hle := h.hle
  have hl := h.hlen
  unfold maxLen at hcap
  rcases headB_cases bs c with ⟨h0, _, _, h4, h5⟩ | ⟨h0, k1, k2, n1, n2, h3⟩
  · rw [readB_head h0]
    have hne : ((headB bs c).2.2 != 0) = true := by simpa using h0
    clear h0
    go_enter Try.func30, Try.ntmps30
    go_wp2_with fail
    refine (head_any a len cap bs c _ (h.below ((Below.refl _ _).alloc (Nat.le_refl _) _))).mono ?_
    rintro e w1 ⟨rfl, hb⟩
    obtain ⟨hc, hf⟩ := bcell hb
    have hz : w.heap.size < w1.heap.size := by have := hb.size; simp at this; omega
    clear h
    go_wp2
    exact bodyPost_ret (v := .tuple #[.agg #[.int .i64 0, .string ⟨#[]⟩], .int .i64 0, .int .i64 (headB bs c).2.2]) (by simp [results, Try.results30, go_sem, hc]) rfl ⟨rfl, ((((Below.refl _ _).alloc (Nat.le_refl _) _).trans (hb.mono (by simp))).setCell (Nat.le_refl _) _).setCell (Nat.le_refl _) _⟩
  · obtain ⟨m, hm⟩ : ∃ m : Nat, (headB bs c).2.1 = m := ⟨(headB bs c).2.1.toNat, by omega⟩
    have hcd := capd_hi c
    have hm2 : m ≤ 1024 := by omega
    obtain ⟨K, hK⟩ : ∃ K, (headB bs c).1 = K := ⟨_, rfl⟩
    by_cases hp : (len : Int) < 3 + m
    · rw [readB_part h0 (by rw [hm, hl]; exact hp)]
      rw [hK] at k1 k2
      clear n1 n2 hl
      go_enter Try.func30, Try.ntmps30
      go_wp2_with fail
      refine (head_any a len cap bs c _ (h.below ((Below.refl _ _).alloc (Nat.le_refl _) _))).mono ?_
      rintro e w1 ⟨rfl, hb⟩
      obtain ⟨hc, hf⟩ := bcell hb
      have hz : w.heap.size < w1.heap.size := by have := hb.size; simp at this; omega
      clear h
      go_wp2
      exact bodyPost_ret (v := .tuple #[.agg #[.int .i64 0, .string ⟨#[]⟩], .int .i64 0, .int .i64 2]) (by simp [results, Try.results30, go_sem, hc]) rfl ⟨rfl, ((((Below.refl _ _).alloc (Nat.le_refl _) _).trans (hb.mono (by simp))).setCell (Nat.le_refl _) _).setCell (Nat.le_refl _) _⟩
    · rw [readB_ok h0 (by rw [hm, hl]; omega)]
      obtain ⟨b, off, rfl, hb0, _⟩ := h.at_ 0 (by omega)
      rw [hK] at k1 k2
      rw [hK, hm, Int.toNat_natCast]
      obtain ⟨S, hS⟩ : ∃ S, mkS ((bs.drop 3).take m) = S := ⟨_, rfl⟩
      rw [hS]
      clear n1 n2 hl
      by_cases hc3 : cap = 3
      · subst hc3
        have hm0 : m = 0 := by omega
        have hl3 : len = 3 := by omega
        subst hm0
        subst hl3
        have hS' : mkS [] = S := by rw [← hS]; simp
        go_enter Try.func30, Try.ntmps30
        go_wp2_with fail
        have hh := h.below ((Below.refl w.heap.size w).alloc (Nat.le_refl _) (Obj.cells #[Value.int .i64 0, Value.string ⟨#[]⟩] 48))
        refine (head_any _ 3 3 bs c _ hh).mono ?_
        rintro e w1 ⟨rfl, hb⟩
        obtain ⟨hc, hf⟩ := bcell hb
        have hz : w.heap.size < w1.heap.size := by have := hb.size; simp at this; omega
        have hcv := conv_none (w := w1) (b := b) (off := off) (c' := 0)
        rw [hS'] at hcv
        clear h hh hS hS'
        go_wp2
        exact bodyPost_ret (v := .tuple #[.agg #[.int .i64 K, .string S], .int .i64 3, .int .i64 0]) (by simp [results, Try.results30, go_sem, hc]) rfl ⟨rfl, ((((Below.refl _ _).alloc (Nat.le_refl _) _).trans (hb.mono (by simp))).setCell (Nat.le_refl _) _).setCell (Nat.le_refl _) _⟩
      · go_enter Try.func30, Try.ntmps30
        go_wp2_with fail
        have hh := h.below ((Below.refl w.heap.size w).alloc (Nat.le_refl _) (Obj.cells #[Value.int .i64 0, Value.string ⟨#[]⟩] 48))
        refine (head_any _ len cap bs c _ hh).mono ?_
        rintro e w1 ⟨rfl, hb⟩
        obtain ⟨hc, hf⟩ := bcell hb
        have hz : w.heap.size < w1.heap.size := by have := hb.size; simp at this; omega
        have hcv := conv_mid (c' := cap - 3) (hh.below hb) (m := m) (by omega)
        rw [hS] at hcv
        clear h hh hS
        go_wp2
        exact bodyPost_ret (v := .tuple #[.agg #[.int .i64 K, .string S], .int .i64 (3 + (m : Int)), .int .i64 0]) (by simp [results, Try.results30, go_sem, hc]) rfl ⟨rfl, ((((Below.refl _ _).alloc (Nat.le_refl _) _).trans (hb.mono (by simp))).setCell (Nat.le_refl _) _).setCell (Nat.le_refl _) _⟩

set_option maxHeartbeats 400000 in
set_option maxRecDepth 100000 in
theorem rread_any (a : Option Addr) (len cap : Nat) (bs : List UInt8) (c : Int) (w : World) (h : BytesAt w a len cap bs) :
    Calls Try.prog 31 #[.slice a len cap, .int .i64 c] w fun e w' => e = .returned (.tuple #[.agg #[.int .i64 (readB bs c).1.k, .string (readB bs c).1.s], .int .i64 (readB bs c).2.1, .int .i64 (readB bs c).2.2]) ∧ Below w.heap.size w w' := by
  have hcap := h.hcap
  have hle := h.hle
  have hl := h.hlen
  unfold maxLen at hcap
  rcases headB_cases bs c with ⟨h0, _, _, h4, h5⟩ | ⟨h0, k1, k2, n1, n2, h3⟩
  · rw [readB_head h0]
    have hne : ((headB bs c).2.2 != 0) = true := by simpa using h0
    clear h0
    go_enter Try.func31, Try.ntmps31
    go_wp2_with fail
    refine (rhead_any a len cap bs c _ (h.below ((Below.refl _ _).alloc (Nat.le_refl _) _))).mono ?_
    rintro e w1 ⟨rfl, hb⟩
    obtain ⟨hc, hf⟩ := bcell hb
    have hz : w.heap.size < w1.heap.size := by have := hb.size; simp at this; omega
    clear h
    go_wp2
    exact bodyPost_ret (v := .tuple #[.agg #[.int .i64 0, .string ⟨#[]⟩], .int .i64 0, .int .i64 (headB bs c).2.2]) (by simp [results, Try.results31, go_sem, hc]) rfl ⟨rfl, ((((Below.refl _ _).alloc (Nat.le_refl _) _).trans (hb.mono (by simp))).setCell (Nat.le_refl _) _).setCell (Nat.le_refl _) _⟩
  · obtain ⟨m, hm⟩ : ∃ m : Nat, (headB bs c).2.1 = m := ⟨(headB bs c).2.1.toNat, by omega⟩
    have hcd := capd_hi c
    have hm2 : m ≤ 1024 := by omega
    obtain ⟨K, hK⟩ : ∃ K, (headB bs c).1 = K := ⟨_, rfl⟩
    by_cases hp : (len : Int) < 3 + m
    · rw [readB_part h0 (by rw [hm, hl]; exact hp)]
      rw [hK] at k1 k2
      clear n1 n2 hl
      go_enter Try.func31, Try.ntmps31
      go_wp2_with fail
      refine (rhead_any a len cap bs c _ (h.below ((Below.refl _ _).alloc (Nat.le_refl _) _))).mono ?_
      rintro e w1 ⟨rfl, hb⟩
      obtain ⟨hc, hf⟩ := bcell hb
      have hz : w.heap.size < w1.heap.size := by have := hb.size; simp at this; omega
      clear h
      go_wp2
      exact bodyPost_ret (v := .tuple #[.agg #[.int .i64 0, .string ⟨#[]⟩], .int .i64 0, .int .i64 2]) (by simp [results, Try.results31, go_sem, hc]) rfl ⟨rfl, ((((Below.refl _ _).alloc (Nat.le_refl _) _).trans (hb.mono (by simp))).setCell (Nat.le_refl _) _).setCell (Nat.le_refl _) _⟩
    · rw [readB_ok h0 (by rw [hm, hl]; omega)]
      obtain ⟨b, off, rfl, hb0, _⟩ := h.at_ 0 (by omega)
      rw [hK] at k1 k2
      rw [hK, hm, Int.toNat_natCast]
      obtain ⟨S, hS⟩ : ∃ S, mkS ((bs.drop 3).take m) = S := ⟨_, rfl⟩
      rw [hS]
      clear n1 n2 hl
      by_cases hc3 : cap = 3
      · subst hc3
        have hm0 : m = 0 := by omega
        have hl3 : len = 3 := by omega
        subst hm0
        subst hl3
        have hS' : mkS [] = S := by rw [← hS]; simp
        go_enter Try.func31, Try.ntmps31
        go_wp2_with fail
        have hh := h.below ((Below.refl w.heap.size w).alloc (Nat.le_refl _) (Obj.cells #[Value.int .i64 0, Value.string ⟨#[]⟩] 48))
        refine (rhead_any _ 3 3 bs c _ hh).mono ?_
        rintro e w1 ⟨rfl, hb⟩
        obtain ⟨hc, hf⟩ := bcell hb
        have hz : w.heap.size < w1.heap.size := by have := hb.size; simp at this; omega
        have hcv := conv_none (w := w1) (b := b) (off := off) (c' := 0)
        rw [hS'] at hcv
        clear h hh hS hS'
        go_wp2
        exact bodyPost_ret (v := .tuple #[.agg #[.int .i64 K, .string S], .int .i64 3, .int .i64 0]) (by simp [results, Try.results31, go_sem, hc]) rfl ⟨rfl, ((((Below.refl _ _).alloc (Nat.le_refl _) _).trans (hb.mono (by simp))).setCell (Nat.le_refl _) _).setCell (Nat.le_refl _) _⟩
      · go_enter Try.func31, Try.ntmps31
        go_wp2_with fail
        have hh := h.below ((Below.refl w.heap.size w).alloc (Nat.le_refl _) (Obj.cells #[Value.int .i64 0, Value.string ⟨#[]⟩] 48))
        refine (rhead_any _ len cap bs c _ hh).mono ?_
        rintro e w1 ⟨rfl, hb⟩
        obtain ⟨hc, hf⟩ := bcell hb
        have hz : w.heap.size < w1.heap.size := by have := hb.size; simp at this; omega
        have hcv := conv_mid (c' := cap - 3) (hh.below hb) (m := m) (by omega)
        rw [hS] at hcv
        clear h hh hS
        go_wp2
        exact bodyPost_ret (v := .tuple #[.agg #[.int .i64 K, .string S], .int .i64 (3 + (m : Int)), .int .i64 0]) (by simp [results, Try.results31, go_sem, hc]) rfl ⟨rfl, ((((Below.refl _ _).alloc (Nat.le_refl _) _).trans (hb.mono (by simp))).setCell (Nat.le_refl _) _).setCell (Nat.le_refl _) _⟩

end Go.Proofs.Ytbpflpngaipckaa
