/-
  What DrainsRow's closure answers, of the very name that is next: what it is told to say; it counts that it was asked. And what asks it. Conditions: its variables lie where they are said to lie, that of the count apart from the others.
-/
import Derived.Test.YthobihlnjcphaaaAsk
import Derived.Test.YthobihlnjcphaaaDueP
namespace Go.Proofs.Ythobihlnjcphaaa
open Go.ChangeShapes Go.WideShapes Go.ChangeAt Go.RowKit

/-- The closure's variables. -/
structure RV (w : World) (ka ky kt kn : Nat) (m : Int) (y : Bool) (t : Nat) (an : Option Addr) (n cn : Nat) (ns : List ByteArray) : Prop where
  ha : w.heap[ka]? = some (.cells #[.int .i64 m] 3 (0, 0))
  hy : w.cell? ⟨ky, 0, none⟩ = some (.bool y)
  ht : w.cell? ⟨kt, 0, none⟩ = some (.int .i64 t)
  hn : w.cell? ⟨kn, 0, none⟩ = some (.slice an n cn)
  hs : StrsAt w an n cn ns
  d1 : ky ≠ ka
  d2 : kt ≠ ka
  d3 : kn ≠ ka
  d4 : ∀ z, an = some z → z.block ≠ ka

theorem blk1 {w : World} {g : Nat} {x : Value} {t : TypeId} (h : w.heap[g]? = some (.cells #[x] t (0, 0))) : w.cell? ⟨g, 0, none⟩ = some x ∧ g < w.heap.size ∧ w.frozen? ⟨g, 0, none⟩ = false :=
  ⟨by simp [World.cell?, h], lt_of_heap h, by simp [World.frozen?, h]⟩
theorem heap_set1 {w : World} {g : Nat} {x u : Value} {t : TypeId} (h : w.heap[g]? = some (.cells #[x] t (0, 0))) : (w.setCell ⟨g, 0, none⟩ u).heap[g]? = some (.cells #[u] t (0, 0)) := by
  rw [heap_setCell_same w g 0 _ t _ h]; simp

section
variable {w w' : World} {ka ky kt kn : Nat} {m : Int} {y : Bool} {t : Nat} {an : Option Addr} {n cn : Nat} {ns : List ByteArray}
theorem RV.below (h : RV w ka ky kt kn m y t an n cn ns) (hb : Below w.heap.size w w') : RV w' ka ky kt kn m y t an n cn ns :=
  ⟨(hb.block ka (lt_of_heap h.ha)).trans h.ha, (hb.cell (p := ⟨ky, 0, none⟩) (World.block_lt_of_cell? _ _ h.hy)).trans h.hy, (hb.cell (p := ⟨kt, 0, none⟩) (World.block_lt_of_cell? _ _ h.ht)).trans h.ht, (hb.cell (p := ⟨kn, 0, none⟩) (World.block_lt_of_cell? _ _ h.hn)).trans h.hn, h.hs.below (Nat.le_refl _) hb, h.d1, h.d2, h.d3, h.d4⟩

set_option maxHeartbeats 1000000 in
theorem row1_any (x : ByteArray) (w : World) (h : RV w ka ky kt kn m y t an n cn ns) (ht : t < n) (hx : ns.getD t ⟨#[]⟩ = x) (hm : m ≤ 100) (hm0 : 0 ≤ m) :
    Calls Try.prog 30 #[.string x, .pointer (some ⟨ka, 0, none⟩), .pointer (some ⟨ky, 0, none⟩), .pointer (some ⟨kt, 0, none⟩), .pointer (some ⟨kn, 0, none⟩)] w fun e w' => e = .returned (.bool y) ∧ w' = w.setCell ⟨ka, 0, none⟩ (.int .i64 (m + 1)) := by
  obtain ⟨c0, -, f0⟩ := blk1 h.ha
  have hk : Keep (fun k => k ≠ ka) w (w.setCell ⟨ka, 0, none⟩ (.int .i64 (m + 1))) := (Keep.refl _ w).setCell (fun hn => hn rfl) _
  have y1 := hk.cell h.hy h.d1
  have t1 := hk.cell h.ht h.d2
  have n1 := hk.cell h.hn h.d3
  have s1 := h.hs.keep hk h.d4
  obtain ⟨b, off, rfl, hb, hc⟩ := s1.at_ t ht
  rw [hx] at hc
  have ht' : (t : Int) < (n : Int) := by omega
  have hle := s1.hle
  have hcap := s1.hcap
  unfold maxLen at hcap
  clear s1 hk h hx
  cases y
  all_goals
    go_enter Try.func30, Try.ntmps30
    go_wp2
    go_ret
    exact ⟨ret_bool (by simp), rfl⟩

theorem asked_row (p : Nat) (x : ByteArray) (w : World) (hp : w.cell? ⟨p, 0, none⟩ = some (rowv ka ky kt kn)) (h : RV w ka ky kt kn m y t an n cn ns) (ht : t < n) (hx : ns.getD t ⟨#[]⟩ = x) (hm : m ≤ 100) (hm0 : 0 ≤ m) :
    Calls Try.prog 48 #[.string x, .pointer (some ⟨p, 0, none⟩)] w fun e w' => e = .returned (.bool y) ∧ w'.cell? ⟨ka, 0, none⟩ = some (.int .i64 (m + 1)) ∧ Keep (fun k => k ≠ ka) w w' := by
  have hmf : ∀ (fn : Fn) (first cap : Array Value) (w : World), (Instr.makeFunc fn first cap).run Try.prog w = .ok (.func fn first cap) w := fun _ _ _ _ => rfl
  have heq : ∀ w, (binOp .eql 42 (rowv ka ky kt kn) .nilFunc).run Try.prog w = .ok (.bool false) w := fun w => by unfold rowv; kernel_rfl
  have hb : Below w.heap.size w (w.alloc (.cells #[.bool false] 4)) := (Below.refl _ w).alloc (Nat.le_refl _) _
  have hp1 := (hb.cell (p := ⟨p, 0, none⟩) (World.block_lt_of_cell? _ _ hp)).trans hp
  have ho := row1_any x _ (h.below hb) ht hx hm hm0
  have hka := lt_of_heap h.ha
  have hk0 : Keep (fun k => k ≠ ka) (w.alloc (.cells #[.bool false] 4)) ((w.alloc (.cells #[.bool false] 4)).setCell ⟨ka, 0, none⟩ (.int .i64 (m + 1))) := (Keep.refl _ _).setCell (fun hn => hn rfl) _
  have hblk : ((w.alloc (.cells #[.bool false] 4)).setCell ⟨ka, 0, none⟩ (.int .i64 (m + 1))).heap[w.heap.size]? = some (.cells #[.bool false] 4 (0, 0)) := (hk0.block _ (by simp) (by show _ ≠ _; omega)).trans (heap_alloc_new w _)
  obtain ⟨q0, -, q1⟩ := blk1 hblk
  have HE : Hid ((((w.alloc (.cells #[.bool false] 4)).setCell ⟨ka, 0, none⟩ (.int .i64 (m + 1))).setCell ⟨w.heap.size, 0, none⟩ (.bool y)).cell? ⟨ka, 0, none⟩ = some (.int .i64 (m + 1)) ∧ Keep (fun k => k ≠ ka) w (((w.alloc (.cells #[.bool false] 4)).setCell ⟨ka, 0, none⟩ (.int .i64 (m + 1))).setCell ⟨w.heap.size, 0, none⟩ (.bool y)) ∧ (((w.alloc (.cells #[.bool false] 4)).setCell ⟨ka, 0, none⟩ (.int .i64 (m + 1))).setCell ⟨w.heap.size, 0, none⟩ (.bool y)).cell? ⟨w.heap.size, 0, none⟩ = some (.bool y)) := by
    have h1 := heap_set1 (u := .int .i64 (m + 1)) ((h.below hb).ha)
    have h2 : (((w.alloc (.cells #[.bool false] 4)).setCell ⟨ka, 0, none⟩ (.int .i64 (m + 1))).setCell ⟨w.heap.size, 0, none⟩ (.bool y)).heap[ka]? = some (.cells #[.int .i64 (m + 1)] 3 (0, 0)) := (heap_setCell_other _ _ ka _ (by show ka ≠ w.heap.size; omega)).trans h1
    refine ⟨(blk1 h2).1, ?_, (blk1 (heap_set1 hblk)).1⟩
    have h3 : Keep (fun k => k ≠ ka ∧ k < w.heap.size) w (((w.alloc (.cells #[.bool false] 4)).setCell ⟨ka, 0, none⟩ (.int .i64 (m + 1))).setCell ⟨w.heap.size, 0, none⟩ (.bool y)) := (((Keep.refl _ w).alloc _).setCell (fun hn => hn.1 rfl) _).setCell (fun hn => Nat.lt_irrefl _ hn.2) _
    exact h3.mono fun k hk hn => ⟨hn, hk⟩
  clear h hp hka hk0 hblk
  unfold rowv at *
  go_enter_defers Try.func48, Try.ntmps48
  go_wp2_with (first | (go_at_call 30; refine ho.mono ?_; rintro e w' ⟨rfl, hw'⟩; subst w'))
  refine leaves_cons (f := 49) (args := #[.pointer (some ⟨w.heap.size, 0, none⟩)]) (by simp) (by simp [go_sem]) ?_
  refine (idle_any ⟨w.heap.size, 0, none⟩ _).mono ?_
  rintro e u' w'' ⟨rfl, rfl, rfl⟩
  simp only [Leaves, settle]
  have r0 := HE.out.2.2
  refine ⟨.bool y, ?_, rfl, HE.out.1, HE.out.2.1⟩
  simp [results, Try.results48, go_sem, r0]
end

end Go.Proofs.Ythobihlnjcphaaa
