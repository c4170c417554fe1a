/-
  The walk of FrameReads: it returns true and turns nothing that was there. Conditions: the names' table reads as it is laid; the slice reads as a list of bytes.
-/
import Derived.Test.YtoeafdjakaifdaaDoorLives
import Derived.Test.YtoeafdjakaifdaaDoorAll
import Derived.Test.YtoeafdjakaifdaaDoorSame
namespace Go.Proofs.YtoeafdjakaifdaaDoor
open Go.ChangeShapes Go.WideShapes Go.ChangeAt Go.RowKit

set_option maxHeartbeats 1000000 in
set_option maxRecDepth 100000 in
theorem reads_any (a : Option Addr) (len cap : Nat) (bs : List UInt8) (c : Int) (w : World) (hn : Names w) (h : BytesAt w a len cap bs) :
    Calls Tryd.prog 4 #[.slice a len cap, .int .i64 c] w fun e w' => e = .returned (.bool true) ∧ Below w.heap.size w w' := by
  go_enter Tryd.func4, Tryd.ntmps4
  go_wp2_with fail
  refine (lives_any w hn).mono ?_
  rintro e w1 ⟨rfl, hb1⟩
  have h1 := h.below hb1
  go_wp2_with fail
  refine (bytes_any a len cap _ h.hle h.hcap).mono ?_
  rintro e w' ⟨rfl, rfl⟩
  have h2 := h1.take (n := min len 300) (Nat.min_le_left _ _)
  have hm : min len 300 ≤ 2000 := by omega
  generalize min len 300 = m at h2 hm
  generalize bs.take m = ys at h2
  clear h h1 hn
  go_wp2_with fail
  refine (head_any _ _ _ ys c _ h2).mono ?_
  rintro e w2 ⟨rfl, hb2⟩
  have h3 := h2.below hb2
  have B2 : Below w.heap.size w w2 := hb1.trans (hb2.mono hb1.size)
  clear hb1 hb2 h2
  go_wp2_with fail
  refine (rhead_any _ _ _ ys c _ h3).mono ?_
  rintro e w3 ⟨rfl, hb3⟩
  have h4 := h3.below hb3
  have B3 : Below w.heap.size w w3 := B2.trans (hb3.mono B2.size)
  clear hb3 h3 B2
  go_wp2_with fail
  refine (read_any _ _ _ ys c _ h4).mono ?_
  rintro e w4 ⟨rfl, hb4⟩
  have B4 : Below w.heap.size w w4 := B3.trans (hb4.mono B3.size)
  have h5 := (h4.below hb4).below ((Below.refl w4.heap.size w4).alloc (Nat.le_refl _) (.cells #[.int .i64 (readB ys c).1.k, .string (readB ys c).1.s] 23))
  clear hb4 h4 B3
  go_wp2_with fail
  refine (rread_any _ _ _ ys c _ h5).mono ?_
  rintro e w5 ⟨rfl, hb5⟩
  generalize readB ys c = R at h5 hb5
  have X5 : Below (w4.heap.size + 1) (w4.alloc (.cells #[.int .i64 R.1.k, .string R.1.s] 23)) w5 := hb5.mono (by simp)
  have B5 : Below w.heap.size w w5 := (B4.alloc B4.size _).trans (hb5.mono (by have := B4.size; simp; omega))
  have h6 := (h5.below hb5).below ((Below.refl w5.heap.size w5).alloc (Nat.le_refl _) (.cells #[.int .i64 R.1.k, .string R.1.s] 23))
  have z5 : w4.heap.size < w5.heap.size := by have := hb5.size; simp at this; omega
  clear hb5 h5 B4
  go_wp2_with fail
  refine (all_any _ _ _ ys c _ h6 hm).mono ?_
  rintro e w6 ⟨v6, rfl, o6, hb6⟩
  have Y6 : Below (w5.heap.size + 1) (w5.alloc (.cells #[.int .i64 R.1.k, .string R.1.s] 23)) w6 := hb6.mono (by simp)
  have X6 : Below (w4.heap.size + 1) (w4.alloc (.cells #[.int .i64 R.1.k, .string R.1.s] 23)) w6 := (X5.alloc (by omega) _).trans (hb6.mono (by simp; omega))
  have B6 : Below w.heap.size w w6 := (B5.alloc B5.size _).trans (hb6.mono (by have := B5.size; simp; omega))
  have h7 := h6.below hb6
  have z6 : w5.heap.size < w6.heap.size := by have := hb6.size; simp at this; omega
  clear hb6 h6 B5 X5
  go_wp2_with fail
  refine (rall_any _ _ _ ys c _ h7 hm).mono ?_
  rintro e w7 ⟨v7, rfl, o7, hb7⟩
  have Y7 : Below (w5.heap.size + 1) (w5.alloc (.cells #[.int .i64 R.1.k, .string R.1.s] 23)) w7 := Y6.trans (hb7.mono (by omega))
  have X7 : Below (w4.heap.size + 1) (w4.alloc (.cells #[.int .i64 R.1.k, .string R.1.s] 23)) w7 := X6.trans (hb7.mono (by omega))
  have B7 : Below w.heap.size w w7 := B6.trans (hb7.mono B6.size)
  have p6 := owns_below o6 hb7
  obtain ⟨x0, x1⟩ := box_cells X7
  obtain ⟨y0, y1⟩ := box_cells Y7
  obtain ⟨a6, c6, rfl, f6⟩ := owns_frames p6
  obtain ⟨a7, c7, rfl, f7⟩ := owns_frames o7
  clear hb7 h7 B6 X6 Y6 Y7 X7 o6 p6 o7 z5 z6
  generalize allB ys c = A at f6 f7
  go_wp2_with (first | (go_at_call 28; refine (same_any _ _ _ _ _ _ _ f6 f7).mono ?_; rintro e w8 ⟨rfl, hb8⟩))
  go_ret
  exact ⟨rfl, B7.trans (hb8.mono B7.size)⟩

end Go.Proofs.YtoeafdjakaifdaaDoor
