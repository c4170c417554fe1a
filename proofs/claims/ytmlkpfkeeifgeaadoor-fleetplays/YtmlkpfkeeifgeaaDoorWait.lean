/-
  What waitNoMore and End do, also of nil. Conditions: drains lie where they are said to lie, and no name stands twice.
-/
import Derived.Test.YtmlkpfkeeifgeaaDoorRules
namespace Go.Proofs.YtmlkpfkeeifgeaaDoor
open Go.ChangeShapes Go.WideShapes Go.ChangeAt Go.RowKit

theorem wait_w (w : World) (A : Nat → Prop) (g : Nat) (L M : List Dr) (x : ByteArray) (h : DIn w A g 0 L M) (hv : Inv L M) :
    Calls Tryd.prog 83 #[.pointer (some ⟨g, 0, none⟩), .string x] w fun e w' => e = .returned (.tuple #[]) ∧ DIn w' A g 0 (wo x L) M ∧ Keep A w w' := by
  have hf := find_w w A g L M x h
  cases h0 : isIn x L with
  | true =>
    rw [(row_0 h0).1, (row_0 h0).2] at hf
    have HT : Hid (∀ w1 : World, Below w.heap.size w w1 → Calls Tryd.prog 91 #[.pointer (some ⟨g, 0, none⟩), .int .i64 0, .int .i64 (fidx x (nms L))] w1 fun e w' => e = .returned (.tuple #[]) ∧ DIn w' A g 0 (wo x L) M ∧ Keep A w w') := fun w1 hb => by
      have := takeOut_0 w1 A g (fidx x (nms L)) L M (h.same hb) (isIn_lt h0)
      rw [wo_erase hv.n1 (isIn_iff.1 h0)] at this
      exact this.mono fun e w' ⟨he, hd, hk⟩ => ⟨he, hd, (keep_below hb).trans hk⟩
    generalize fidx x (nms L) = F at *
    clear h hv
    go_enter Tryd.func83, Tryd.ntmps83
    go_wp2_with (first
      | (go_at_call 88; refine hf.mono ?_; rintro e w1 ⟨rfl, hb1⟩; have ht := HT.out w1 hb1)
      | (go_at_call 91; refine ht.mono ?_; rintro e w2 ⟨rfl, hd2, hk2⟩))
    go_end0
    exact ⟨rfl, hd2, hk2⟩
  | false =>
    have HD : Hid (∀ w1 : World, Below w.heap.size w w1 → DIn w1 A g 0 (wo x L) M ∧ Keep A w w1) := fun w1 hb => by
      rw [wo_not (isIn_not.1 h0)]
      exact ⟨h.same hb, keep_below hb⟩
    have HR : Hid ((rowI x L M == 0) = false) := by
      show _ = _
      cases h1 : isIn x M with
      | true => rw [(row_1 h0 h1).1]; rfl
      | false => rw [(row_2 h0 h1).1]; rfl
    have hr := HR.out
    generalize rowI x L M = r at *
    generalize plcI x L M = p at *
    clear h hv
    go_enter Tryd.func83, Tryd.ntmps83
    go_wp2_with (first | (go_at_call 88; refine hf.mono ?_; rintro e w1 ⟨rfl, hb1⟩))
    go_end0
    exact ⟨rfl, HD.out w1 hb1⟩

theorem end_nil (x : ByteArray) (w : World) : Calls Tryd.prog 64 #[.pointer none, .string x] w fun e w' => e = .returned (.bool false) ∧ w' = w := by
  go_enter Tryd.func64, Tryd.ntmps64
  go_wp2_with (first | (go_at_call 88; refine (find_nil _ _).mono ?_; rintro e w' ⟨rfl, hw'⟩; subst w'))
  go_ret
  exact ⟨rfl, rfl⟩

theorem end_w (w : World) (A : Nat → Prop) (g : Nat) (L M : List Dr) (x : ByteArray) (h : DIn w A g 0 L M) (hv : Inv L M) :
    Calls Tryd.prog 64 #[.pointer (some ⟨g, 0, none⟩), .string x] w fun e w' => e = .returned (.bool (isIn x L || isIn x M)) ∧ DIn w' A g 0 (wo x L) (wo x M) ∧ Keep A w w' := by
  have hf := find_w w A g L M x h
  cases h0 : isIn x L with
  | true =>
    rw [(row_0 h0).1, (row_0 h0).2] at hf
    have HT : Hid (∀ w1 : World, Below w.heap.size w w1 → Calls Tryd.prog 91 #[.pointer (some ⟨g, 0, none⟩), .int .i64 0, .int .i64 (fidx x (nms L))] w1 fun e w' => e = .returned (.tuple #[]) ∧ DIn w' A g 0 (wo x L) (wo x M) ∧ Keep A w w') := fun w1 hb => by
      have := takeOut_0 w1 A g (fidx x (nms L)) L M (h.same hb) (isIn_lt h0)
      rw [wo_erase hv.n1 (isIn_iff.1 h0)] at this
      rw [wo_not (hv.apart x (isIn_iff.1 h0))]
      exact this.mono fun e w' ⟨he, hd, hk⟩ => ⟨he, hd, (keep_below hb).trans hk⟩
    generalize fidx x (nms L) = F at *
    clear h hv
    go_enter Tryd.func64, Tryd.ntmps64
    go_wp2_with (first
      | (go_at_call 88; refine hf.mono ?_; rintro e w1 ⟨rfl, hb1⟩; have ht := HT.out w1 hb1)
      | (go_at_call 91; refine ht.mono ?_; rintro e w2 ⟨rfl, hd2, hk2⟩))
    go_ret
    exact ⟨rfl, hd2, hk2⟩
  | false =>
    cases h1 : isIn x M with
    | true =>
      rw [(row_1 h0 h1).1, (row_1 h0 h1).2] at hf
      have HT : Hid (∀ w1 : World, Below w.heap.size w w1 → Calls Tryd.prog 91 #[.pointer (some ⟨g, 0, none⟩), .int .i64 1, .int .i64 (fidx x (nms M))] w1 fun e w' => e = .returned (.tuple #[]) ∧ DIn w' A g 0 (wo x L) (wo x M) ∧ Keep A w w') := fun w1 hb => by
        have := takeOut_1 w1 A g (fidx x (nms M)) L M (h.same hb) (isIn_lt h1)
        rw [wo_erase hv.n2 (isIn_iff.1 h1)] at this
        rw [wo_not (isIn_not.1 h0)]
        exact this.mono fun e w' ⟨he, hd, hk⟩ => ⟨he, hd, (keep_below hb).trans hk⟩
      generalize fidx x (nms M) = F at *
      clear h hv
      go_enter Tryd.func64, Tryd.ntmps64
      go_wp2_with (first
        | (go_at_call 88; refine hf.mono ?_; rintro e w1 ⟨rfl, hb1⟩; have ht := HT.out w1 hb1)
        | (go_at_call 91; refine ht.mono ?_; rintro e w2 ⟨rfl, hd2, hk2⟩))
      go_ret
      exact ⟨rfl, hd2, hk2⟩
    | false =>
      rw [(row_2 h0 h1).1, (row_2 h0 h1).2] at hf
      have HD : Hid (∀ w1 : World, Below w.heap.size w w1 → DIn w1 A g 0 (wo x L) (wo x M) ∧ Keep A w w1) := fun w1 hb => by
        rw [wo_not (isIn_not.1 h0), wo_not (isIn_not.1 h1)]
        exact ⟨h.same hb, keep_below hb⟩
      clear h hv
      go_enter Tryd.func64, Tryd.ntmps64
      go_wp2_with (first | (go_at_call 88; refine hf.mono ?_; rintro e w1 ⟨rfl, hb1⟩))
      go_ret
      exact ⟨rfl, HD.out w1 hb1⟩

end Go.Proofs.YtmlkpfkeeifgeaaDoor
