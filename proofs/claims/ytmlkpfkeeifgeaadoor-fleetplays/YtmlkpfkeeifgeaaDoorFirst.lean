/-
  What First does, whatever function it is handed, also of nil. Conditions: drains lie where they are said to lie, no name stands twice; the function, asked of the first name, answers and writes nothing of theirs.
-/
import Derived.Test.YtmlkpfkeeifgeaaDoorAsk
import Derived.Test.YtmlkpfkeeifgeaaDoorWait
namespace Go.Proofs.YtmlkpfkeeifgeaaDoor
open Go.ChangeShapes Go.WideShapes Go.ChangeAt Go.RowKit

theorem wo_head {L : List Dr} (h : (nms L).Nodup) (h0 : 0 < L.length) : wo (nthD L 0).1 L = L.drop 1 := by
  match L, h0 with
  | p :: L, _ =>
    have hx : p.1 ∈ nms (p :: L) := by simp [nms]
    have e : fidx p.1 (nms (p :: L)) = 0 := by show (if p.1 = p.1 then 0 else _) = 0; rw [if_pos rfl]
    have := wo_erase h hx
    rw [e] at this
    exact this.symm

theorem first_nil (f : Fn) (u cap : Array Value) (w : World) : Calls Tryd.prog 55 #[.pointer none, .func f u cap] w fun e w' => e = .returned (.tuple #[.string ⟨#[]⟩, .bool false]) ∧ w' = w := by
  go_enter Tryd.func55, Tryd.ntmps55
  go_wp2
  go_ret2
  exact ⟨rfl, rfl⟩

theorem first_none (f : Fn) (u cap : Array Value) (w : World) (A : Nat → Prop) (g : Nat) (M : List Dr) (h : DIn w A g 0 [] M) :
    Calls Tryd.prog 55 #[.pointer (some ⟨g, 0, none⟩), .func f u cap] w fun e w' => e = .returned (.tuple #[.string ⟨#[]⟩, .bool false]) ∧ w' = w := by
  obtain ⟨a, c, hc, -⟩ := h.row (.inl rfl)
  simp only [List.length_nil] at hc
  clear h
  go_enter Tryd.func55, Tryd.ntmps55
  go_wp2
  go_ret2
  exact ⟨rfl, rfl⟩

set_option maxHeartbeats 1000000 in
set_option maxRecDepth 100000 in
theorem first_yes (f : Fn) (u cap : Array Value) (w : World) (A : Nat → Prop) (g : Nat) (L M : List Dr) (R : World → Prop) (h : DIn w A g 0 L M) (hv : Inv L M) (h0 : 0 < L.length)
    (hask : Calls Tryd.prog 99 #[.string (nthD L 0).1, .pointer (some ⟨w.heap.size, 0, none⟩)] (w.alloc (.cells #[.func f u cap] 59)) fun e w' => e = .returned (.bool true) ∧ R w' ∧ Keep (fun k => ¬ A k) w w') :
    Calls Tryd.prog 55 #[.pointer (some ⟨g, 0, none⟩), .func f u cap] w fun e w' => e = .returned (.tuple #[.string (nthD L 0).1, .bool true]) ∧ ∃ w2, R w2 ∧ DIn w' A g 0 (L.drop 1) M ∧ Keep A w2 w' := by
  obtain ⟨a, c, hc, hle, hcm, hrow⟩ := h.row (.inl rfl)
  obtain ⟨b, rfl, hb, y1, -⟩ := hrow 0 h0
  rw [Nat.zero_mul] at y1
  have HK : Hid (∀ w2 : World, Keep (fun k => ¬ A k) w w2 → Calls Tryd.prog 83 #[.pointer (some ⟨g, 0, none⟩), .string (nthD L 0).1] w2 fun e w' => e = .returned (.tuple #[]) ∧ DIn w' A g 0 (L.drop 1) M ∧ Keep A w2 w') := fun w2 hk => by
    have := wait_w w2 A g L M (nthD L 0).1 (h.keep hk (fun _ h => .inl h) (fun k hA => Nat.lt_of_lt_of_le (h.guard k hA) hk.size)) hv
    rw [wo_head hv.n1 h0] at this
    exact this
  have hn0 : ((L.length : Int) == 0) = false := by rw [beq_eq_false_iff_ne]; omega
  have hn1 : (0 : Int) < (L.length : Int) := by omega
  unfold maxLen at hcm
  generalize (nthD L 0).1 = y at *
  generalize L.drop 1 = L2 at *
  generalize L.length = n at *
  clear h hv hrow
  go_enter Tryd.func55, Tryd.ntmps55
  go_wp2_with (first
    | (go_at_call 82; refine (asker_any f u cap _).mono ?_; rintro e w' ⟨rfl, hw'⟩; subst w'; unfold askv)
    | (go_at_call 99; refine hask.mono ?_; rintro e w2 ⟨rfl, hR, hk⟩; have hwt := HK.out w2 hk)
    | (go_at_call 83; refine hwt.mono ?_; rintro e w3 ⟨rfl, hd3, hk3⟩))
  go_ret2
  exact ⟨rfl, w2, hR, hd3, hk3⟩

set_option maxHeartbeats 1000000 in
set_option maxRecDepth 100000 in
theorem first_no (f : Fn) (u cap : Array Value) (w : World) (A : Nat → Prop) (g : Nat) (L M : List Dr) (R : World → Prop) (h : DIn w A g 0 L M) (h0 : 0 < L.length)
    (hask : Calls Tryd.prog 99 #[.string (nthD L 0).1, .pointer (some ⟨w.heap.size, 0, none⟩)] (w.alloc (.cells #[.func f u cap] 59)) fun e w' => e = .returned (.bool false) ∧ R w' ∧ Keep (fun k => ¬ A k) w w') :
    Calls Tryd.prog 55 #[.pointer (some ⟨g, 0, none⟩), .func f u cap] w fun e w' => e = .returned (.tuple #[.string ⟨#[]⟩, .bool false]) ∧ R w' ∧ DIn w' A g 0 L M := by
  obtain ⟨a, c, hc, hle, hcm, hrow⟩ := h.row (.inl rfl)
  obtain ⟨b, rfl, hb, y1, -⟩ := hrow 0 h0
  rw [Nat.zero_mul] at y1
  have HK : Hid (∀ w2 : World, Keep (fun k => ¬ A k) w w2 → DIn w2 A g 0 L M) := fun w2 hk => h.keep hk (fun _ h => .inl h) (fun k hA => Nat.lt_of_lt_of_le (h.guard k hA) hk.size)
  have hn0 : ((L.length : Int) == 0) = false := by rw [beq_eq_false_iff_ne]; omega
  have hn1 : (0 : Int) < (L.length : Int) := by omega
  unfold maxLen at hcm
  generalize (nthD L 0).1 = y at *
  generalize L.length = n at *
  clear h hrow
  go_enter Tryd.func55, Tryd.ntmps55
  go_wp2_with (first
    | (go_at_call 82; refine (asker_any f u cap _).mono ?_; rintro e w' ⟨rfl, hw'⟩; subst w'; unfold askv)
    | (go_at_call 99; refine hask.mono ?_; rintro e w2 ⟨rfl, hR, hk⟩; have hd2 := HK.out w2 hk))
  go_ret2
  exact ⟨rfl, hR, hd2⟩

end Go.Proofs.YtmlkpfkeeifgeaaDoor
