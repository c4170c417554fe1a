/-
  What Ask does in every case, and what Begin does, also of nil. Conditions: drains lie where they are said to lie, no name stands twice, a name is no longer than the greatest length; of Begin, at most 4000 are under way.
-/
import Derived.Test.YtmlkpfkeeifgeaaDoorAdd
namespace Go.Proofs.YtmlkpfkeeifgeaaDoor
open Go.ChangeShapes Go.WideShapes Go.ChangeAt Go.RowKit

theorem ask_w (w : World) (A : Nat → Prop) (g : Nat) (L M : List Dr) (x : ByteArray) (h : DIn w A g 0 L M) (hs : x.size ≤ maxLen) :
    Calls Tryd.prog 61 #[.pointer (some ⟨g, 0, none⟩), .string x] w fun e w' => e = .returned (.int .i64 (askE x L M)) ∧ DIn w' A g 0 (askL x L M) M ∧ Keep A w w' := by
  unfold askE askL
  cases h0 : nameB x with
  | false => exact (ask_name w g x hs h0).mono fun e w' ⟨he, hw⟩ => ⟨he, by rw [hw]; exact h, by rw [hw]; exact Keep.refl _ _⟩
  | true =>
    simp only [reduceCtorEq, if_false]
    cases h1 : (isIn x L || isIn x M) with
    | true => exact (ask_there w A g L M x h hs h0 h1).mono fun e w' ⟨he, hw⟩ => ⟨he, h.same hw, keep_below hw⟩
    | false =>
      simp only [reduceCtorEq, if_false]
      by_cases h2 : 16 ≤ L.length
      · rw [if_pos h2, if_pos h2]
        exact (ask_full w A g L M x h hs h0 h1 h2).mono fun e w' ⟨he, hw⟩ => ⟨he, h.same hw, keep_below hw⟩
      · rw [if_neg h2, if_neg h2]
        exact ask_ok w A g L M x h hs h0 h1 (by omega)
theorem Inv.asked {L M : List Dr} (h : Inv L M) (x : ByteArray) : Inv (askL x L M) M := by
  unfold askL
  split
  · exact h
  · split
    · exact h
    · rename_i h1
      split
      · exact h
      · rename_i h2
        rw [Bool.not_eq_true, Bool.or_eq_false_iff] at h1
        exact h.ask (isIn_not.1 h1.1) (isIn_not.1 h1.2) (by omega)

/-- What Begin tells. -/
def begE (x : ByteArray) (M : List Dr) : Int := if nameB x = false then 11 else if isIn x M = true then 6 else 0
/-- Who waits, and who is under way then. -/
def begL (x : ByteArray) (L M : List Dr) : List Dr := if nameB x = false then L else if isIn x M = true then L else wo x L
def begM (x : ByteArray) (d : Int) (M : List Dr) : List Dr := if nameB x = false then M else if isIn x M = true then M else M ++ [(x, cut d)]

theorem beg_nil (x : ByteArray) (d : Int) (w : World) : Calls Tryd.prog 59 #[.pointer none, .string x, .int .i64 d] w fun e w' => e = .returned (.int .i64 1) ∧ w' = w := by
  go_enter Tryd.func59, Tryd.ntmps59
  go_wp2
  go_ret
  exact ⟨rfl, rfl⟩

theorem beg_name (w : World) (g : Nat) (x : ByteArray) (d : Int) (hs : x.size ≤ maxLen) (h0 : nameB x = false) :
    Calls Tryd.prog 59 #[.pointer (some ⟨g, 0, none⟩), .string x, .int .i64 d] w fun e w' => e = .returned (.int .i64 11) ∧ w' = w := by
  have hn := name_any x hs w
  rw [h0] at hn
  go_enter Tryd.func59, Tryd.ntmps59
  go_wp2_with (first | (go_at_call 80; refine hn.mono ?_; rintro e w' ⟨rfl, hw'⟩; subst w'))
  go_ret
  exact ⟨rfl, rfl⟩

theorem beg_there (w : World) (A : Nat → Prop) (g : Nat) (L M : List Dr) (x : ByteArray) (d : Int) (h : DIn w A g 0 L M) (hv : Inv L M) (hs : x.size ≤ maxLen) (h0 : nameB x = true) (h1 : isIn x M = true) :
    Calls Tryd.prog 59 #[.pointer (some ⟨g, 0, none⟩), .string x, .int .i64 d] w fun e w' => e = .returned (.int .i64 6) ∧ Below w.heap.size w w' := by
  have hn := name_any x hs w
  rw [h0] at hn
  have hf := find_w w A g L M x h
  rw [(row_1 (hv.in1 h1) h1).1] at hf
  generalize plcI x L M = p at *
  clear h h1 hv
  go_enter Tryd.func59, Tryd.ntmps59
  go_wp2_with (first
    | (go_at_call 80; refine hn.mono ?_; rintro e w' ⟨rfl, hw'⟩; subst w')
    | (go_at_call 88; refine hf.mono ?_; rintro e w1 ⟨rfl, hb1⟩))
  go_ret
  exact ⟨rfl, hb1⟩

set_option maxHeartbeats 1000000 in
set_option maxRecDepth 100000 in
theorem beg_ok (w : World) (A : Nat → Prop) (g : Nat) (L M : List Dr) (x : ByteArray) (d : Int) (h : DIn w A g 0 L M) (hv : Inv L M) (hs : x.size ≤ maxLen) (h0 : nameB x = true) (h1 : isIn x M = false) (h2 : M.length ≤ 4000) :
    Calls Tryd.prog 59 #[.pointer (some ⟨g, 0, none⟩), .string x, .int .i64 d] w fun e w' => e = .returned (.int .i64 0) ∧ DIn w' A g 0 (wo x L) (M ++ [(x, cut d)]) ∧ Keep A w w' := by
  have hn := name_any x hs w
  rw [h0] at hn
  have hf := find_w w A g L M x h
  have hr : (rowI x L M == 1) = false := by
    cases h2 : isIn x L with
    | true => rw [(row_0 h2).1]; rfl
    | false => rw [(row_2 h2 h1).1]; rfl
  have H : Hid (∀ w1 : World, Below w.heap.size w w1 → Calls Tryd.prog 83 #[.pointer (some ⟨g, 0, none⟩), .string x] w1 fun e w' => e = .returned (.tuple #[]) ∧ DIn w' A g 0 (wo x L) M ∧ Keep A w w') := fun w1 hb =>
    (wait_w w1 A g L M x (h.same hb) hv).mono fun e w' ⟨he, hd, hk⟩ => ⟨he, hd, (keep_below hb).trans hk⟩
  generalize rowI x L M = r at *
  generalize plcI x L M = p at *
  clear h h1 hv
  go_enter Tryd.func59, Tryd.ntmps59
  go_wp2_with (first
    | (go_at_call 80; refine hn.mono ?_; rintro e w' ⟨rfl, hw'⟩; subst w')
    | (go_at_call 88; refine hf.mono ?_; rintro e w0 ⟨rfl, hb0⟩; have ht := H.out w0 hb0)
    | (go_at_call 83; refine ht.mono ?_; rintro e w1 ⟨rfl, hd1, hk1⟩))
  have hgl := hd1.lt
  obtain ⟨B, a, c, l, hc, hra, q1, q2, hBk, HP⟩ := DIn.push (.inr rfl) hd1.swap0
  have hb1 : Below w1.heap.size w1 ((w1.alloc (.cells #[.string x, .int .i64 (cut d)] 118)).drew) := below_drewN ((Below.refl _ w1).alloc (Nat.le_refl _) _) 1
  have hra0 : RIn ((w1.alloc (.cells #[.string x, .int .i64 (cut d)] 118)).drew) B a c l := hra.move (fun b y hA hy => ⟨hb1.block b (lt_of_heap hy), hA⟩)
  have u0 : ((w1.alloc (.cells #[.string x, .int .i64 (cut d)] 118)).drew).cell? ⟨w1.heap.size, 0, none⟩ = some (.string x) := (blk2 (heap_alloc_new w1 (.cells #[.string x, .int .i64 (cut d)] 118))).1
  have u1 : ((w1.alloc (.cells #[.string x, .int .i64 (cut d)] 118)).drew).cell? ((⟨w1.heap.size, 0, none⟩ : Addr).add 1) = some (.int .i64 (cut d)) := (blk2 (heap_alloc_new w1 (.cells #[.string x, .int .i64 (cut d)] 118))).2.1
  have hca : (w1.alloc (.cells #[.string x, .int .i64 (cut d)] 118)).cell? ⟨g, 1, none⟩ = some (.slice a M.length c) := (((Below.refl _ w1).alloc (Nat.le_refl _) _).cell (p := ⟨g, 1, none⟩) hgl).trans hc
  have hBs : ∀ k, B k → k < ((w1.alloc (.cells #[.string x, .int .i64 (cut d)] 118)).drew).heap.size := fun k hk => Nat.lt_of_lt_of_le (hBk k hk) hb1.size
  have HK := Hid.mk' (fun a' c' l' w3 => HP _ w3 a' c' l' (x, cut d) hb1)
  have hlen : M.length ≤ 5000 := by omega
  have HB1 := Hid.mk' hk1
  clear HP hra hBk hk1 hd1 ht hb1 hb0 hn hf H hgl hr
  generalize hn : M.length = n at *
  go_region_law (first
    | ((refine step_one rfl _ _ rfl B a n c l M (x, cut d) ⟨w1.heap.size, 0, none⟩ 1 rfl rfl hra0 hn q1 q2 hlen u0 u1 hBs ?_; intro a' c' l' w3 y1 y2 y3 y4; have hkk := HK.out a' c' l' w3 y1 y2 y3 y4; have d3 := hkk.1; have f3 := hkk.2.1))
    | ((go_simp; go_at_call 89; refine (cut_any _ _).mono ?_; rintro e w' ⟨rfl, hw'⟩; obtain rfl := hw')))
  all_goals (
    go_wp2
    go_ret
    exact ⟨rfl, hkk.2.2.1.swap1, HB1.out.trans hkk.2.2.2⟩)

theorem beg_w (w : World) (A : Nat → Prop) (g : Nat) (L M : List Dr) (x : ByteArray) (d : Int) (h : DIn w A g 0 L M) (hv : Inv L M) (hs : x.size ≤ maxLen) (h2 : M.length ≤ 4000) :
    Calls Tryd.prog 59 #[.pointer (some ⟨g, 0, none⟩), .string x, .int .i64 d] w fun e w' => e = .returned (.int .i64 (begE x M)) ∧ DIn w' A g 0 (begL x L M) (begM x d M) ∧ Keep A w w' := by
  unfold begE begL begM
  cases h0 : nameB x with
  | false => exact (beg_name w g x d hs h0).mono fun e w' ⟨he, hw⟩ => ⟨he, by rw [hw]; exact h, by rw [hw]; exact Keep.refl _ _⟩
  | true =>
    simp only [reduceCtorEq, if_false]
    cases h1 : isIn x M with
    | true => exact (beg_there w A g L M x d h hv hs h0 h1).mono fun e w' ⟨he, hw⟩ => ⟨he, h.same hw, keep_below hw⟩
    | false => exact beg_ok w A g L M x d h hv hs h0 h1 h2
theorem Inv.begun {L M : List Dr} (h : Inv L M) (x : ByteArray) (d : Int) : Inv (begL x L M) (begM x d M) := by
  unfold begL begM
  split
  · exact h
  · split
    · exact h
    · rename_i h1
      rw [Bool.not_eq_true] at h1
      exact h.begin (isIn_not.1 h1)
theorem begM_len (x : ByteArray) (d : Int) (M : List Dr) : (begM x d M).length ≤ M.length + 1 := by
  unfold begM
  split
  · omega
  · split
    · omega
    · simp

end Go.Proofs.YtmlkpfkeeifgeaaDoor
