/-
  A reader, in plain mathematics: its bytes, its error, what it tells of bytes that come, how many it wants; and how it lies in memory. What New, Left and Err do, each as a contract. No conditions but that a reader lies where it is said to lie.
-/
import Derived.Test.YtbpflpngaipckaaCuts
import Derived.Test.YtbpflpngaipckaaApp
import Derived.Lib.ConvBytes
import Derived.Maps.AppendAt
namespace Go.Proofs.Ytbpflpngaipckaa
open Go.ChangeShapes Go.WideShapes Go.ChangeAt Go.RowKit

/-- A reader: its bytes, its error. -/
structure Rd where
  h : List UInt8
  e : Int

/-- What it is behind bytes that come, and the frames that are told. -/
def feedB (c : Int) (r : Rd) (b : List UInt8) : Rd × List Fr :=
  if r.e ≠ 0 then (r, [])
  else if (allB (r.h ++ b) c).2.2 ≠ 0 then (⟨[], (allB (r.h ++ b) c).2.2⟩, (allB (r.h ++ b) c).1)
  else (⟨(r.h ++ b).drop (allB (r.h ++ b) c).2.1, 0⟩, (allB (r.h ++ b) c).1)

theorem feedB_err {c : Int} {r : Rd} {b : List UInt8} (h : r.e ≠ 0) : feedB c r b = (r, []) := by unfold feedB; rw [if_pos h]
theorem feedB_bad {c : Int} {r : Rd} {b : List UInt8} (h : r.e = 0) (h2 : (allB (r.h ++ b) c).2.2 ≠ 0) : feedB c r b = (⟨[], (allB (r.h ++ b) c).2.2⟩, (allB (r.h ++ b) c).1) := by
  unfold feedB; rw [if_neg (by simpa using h), if_pos h2]
theorem feedB_ok {c : Int} {r : Rd} {b : List UInt8} (h : r.e = 0) (h2 : (allB (r.h ++ b) c).2.2 = 0) : feedB c r b = (⟨(r.h ++ b).drop (allB (r.h ++ b) c).2.1, 0⟩, (allB (r.h ++ b) c).1) := by
  unfold feedB; rw [if_neg (by simpa using h), if_neg (by simpa using h2)]

/-- How many it wants. -/
def wantB (c : Int) (r : Rd) : Int := if r.e ≠ 0 then 0 else 3 + (headB r.h c).2.1 - r.h.length

/-- All frames end within the bytes. -/
theorem allF_le (c : Int) : ∀ (fu : Nat) (bs : List UInt8), (allF fu bs c).2.1 ≤ bs.length
  | 0, _ => Nat.zero_le _
  | fu + 1, bs => by
    have hb := readB_bd bs c
    by_cases h2 : (readB bs c).2.2 = 2
    · rw [allF_form h2]; exact Nat.zero_le _
    · by_cases h0 : (readB bs c).2.2 = 0
      · rw [allF_step h0]
        have := allF_le c fu (bs.drop (readB bs c).2.1.toNat)
        rw [List.length_drop] at this
        show (readB bs c).2.1.toNat + (allF fu (bs.drop (readB bs c).2.1.toNat) c).2.1 ≤ _
        omega
      · rw [allF_bad h2 h0]; exact Nat.zero_le _
theorem allB_le (bs : List UInt8) (c : Int) : (allB bs c).2.1 ≤ bs.length := allF_le c _ bs

/-- It never has more bytes than there were. -/
theorem feedB_len (c : Int) (r : Rd) (b : List UInt8) : (feedB c r b).1.h.length ≤ r.h.length + b.length := by
  by_cases h : r.e = 0
  · by_cases h2 : (allB (r.h ++ b) c).2.2 = 0
    · rw [feedB_ok h h2]
      show ((r.h ++ b).drop _).length ≤ _
      rw [List.length_drop, List.length_append]
      omega
    · rw [feedB_bad h h2]; exact Nat.zero_le _
  · rw [feedB_err h]; exact Nat.le_add_right _ _

/-- A reader lies at block g. -/
structure RAt (w : World) (g : Nat) (c : Int) (r : Rd) : Prop where
  c0 : w.cell? ⟨g, 0, none⟩ = some (.int .i64 c)
  c1 : w.cell? ⟨g, 1, none⟩ = some (.string (mkS r.h))
  c2 : w.cell? ⟨g, 2, none⟩ = some (.int .i64 r.e)
  f1 : w.frozen? ⟨g, 1, none⟩ = false
  f2 : w.frozen? ⟨g, 2, none⟩ = false

theorem RAt.lt {w : World} {g : Nat} {c : Int} {r : Rd} (h : RAt w g c r) : g < w.heap.size := World.block_lt_of_cell? w _ h.c0
theorem RAt.of_block {w w' : World} {g : Nat} {c : Int} {r : Rd} (h : RAt w g c r) (hb : w'.heap[g]? = w.heap[g]?) : RAt w' g c r :=
  ⟨(World.cell?_of_block (a := ⟨g, 0, none⟩) hb).trans h.c0, (World.cell?_of_block (a := ⟨g, 1, none⟩) hb).trans h.c1, (World.cell?_of_block (a := ⟨g, 2, none⟩) hb).trans h.c2, (World.frozen?_of_block (a := ⟨g, 1, none⟩) hb).trans h.f1, (World.frozen?_of_block (a := ⟨g, 2, none⟩) hb).trans h.f2⟩
theorem RAt.below {w w' : World} {g : Nat} {c : Int} {r : Rd} (h : RAt w g c r) (hb : Below w.heap.size w w') : RAt w' g c r := h.of_block (hb.block g h.lt)
theorem RAt.kept {w w' : World} {g : Nat} {c : Int} {r : Rd} {row : Option Nat} (h : RAt w g c r) (hg : w.grownBy w' row) (hne : some g ≠ row) : RAt w' g c r := h.of_block (hg.block g h.lt hne)

/-- Behind what wrote one block alone, what lies elsewhere lasts. -/
theorem BytesAt.kept {w w' : World} {a : Option Addr} {len cap : Nat} {bs : List UInt8} {row : Option Nat} (h : BytesAt w a len cap bs) (hg : w.grownBy w' row) (hne : ∀ x, a = some x → some x.block ≠ row) : BytesAt w' a len cap bs := by
  refine ⟨h.hlen, h.hle, h.hcap, fun j hj => ?_⟩
  obtain ⟨b, off, rfl, hlt, hc⟩ := h.at_ j hj
  have hn := hne ⟨b, off, none⟩ rfl
  exact ⟨b, off, rfl, Nat.lt_of_lt_of_le hlt hg.size, hg.cell hc hn⟩
theorem FramesAt.kept {w w' : World} {a : Option Addr} {len cap : Nat} {bs : List Fr} {row : Option Nat} (h : FramesAt w a len cap bs) (hg : w.grownBy w' row) (hne : ∀ x, a = some x → some x.block ≠ row) : FramesAt w' a len cap bs := by
  refine ⟨h.hlen, h.hle, h.hcap, fun j hj => ?_⟩
  obtain ⟨b, off, rfl, hlt, hc, hd⟩ := h.at_ j hj
  have hn := hne ⟨b, off, none⟩ rfl
  exact ⟨b, off, rfl, Nat.lt_of_lt_of_le hlt hg.size, hg.cell hc hn, hg.cell hd hn⟩

/-- '[]byte(s)': a new row that reads as s's bytes; nothing that was there is turned. -/
theorem conv_str (w : World) (s : ByteArray) (hs : s.size ≤ maxLen) : ∃ C W1, (convert 9 50 (.string s)).run Try.prog w = .ok (.slice (some ⟨w.heap.size, 0, none⟩) s.size C) W1 ∧ BytesAt W1 (some ⟨w.heap.size, 0, none⟩) s.size C s.data.toList ∧ Below w.heap.size w W1 ∧ W1.heap.size = w.heap.size + 1 ∧ s.size ≤ C := by
  refine ⟨_, _, Lib.run_convert_string_bytes w 9 50 5 s Try.underlying9 Try.underlying50 Try.underlying5, ?_, ?_, Lib.bytesWorld_size w 5 s, grownCap_ge _ _ _ _⟩
  · refine ⟨Array.length_toList, grownCap_ge _ _ _ _, grownCap_le_maxLen _ _ _ _ hs, fun j hj => ⟨w.heap.size, 0, rfl, ?_, ?_⟩⟩
    · rw [Lib.bytesWorld_size]; exact Nat.lt_succ_self _
    · rw [Nat.zero_add]; exact Lib.bytesWorld_cell w 5 s j hj
  · refine ⟨?_, ?_, ?_, ?_, fun k hk => Lib.bytesWorld_at_old w 5 s k hk⟩
    · simp [Lib.bytesWorld, World.freeze]; rfl
    · simp [Lib.bytesWorld, World.freeze]
    · simp [Lib.bytesWorld, World.freeze]; rfl
    · rw [Lib.bytesWorld_size]; exact Nat.le_succ _

theorem mkS_append (l : List UInt8) (s : ByteArray) : mkS l ++ s = mkS (l ++ s.data.toList) := by
  apply ByteArray.ext
  simp [mkS]

theorem new_any (c : Int) (w : World) :
    Calls Try.prog 11 #[.int .i64 c] w fun e w' => e = .returned (.pointer (some ⟨w.heap.size, 0, none⟩)) ∧ RAt w' w.heap.size c ⟨[], 0⟩ ∧ Below w.heap.size w w' ∧ w'.heap.size = w.heap.size + 1 := by
  go_enter Try.func11, Try.ntmps11
  go_wp2
  go_ret
  refine ⟨rfl, ⟨?_, ?_, ?_, ?_, ?_⟩, (Below.refl _ _).alloc (Nat.le_refl _) _, by simp⟩
  · simp [go_sem]
  · simp [go_sem]; rfl
  · simp [go_sem]
  · simp [go_sem]
  · simp [go_sem]

theorem err_any (g : Nat) (c : Int) (r : Rd) (w : World) (h : RAt w g c r) :
    Calls Try.prog 17 #[.pointer (some ⟨g, 0, none⟩)] w fun e w' => e = .returned (.int .i64 r.e) ∧ w' = w := by
  have h2 := h.c2
  go_enter Try.func17, Try.ntmps17
  go_wp2
  go_ret
  exact ⟨rfl, rfl⟩

theorem err_nil (w : World) :
    Calls Try.prog 17 #[.pointer none] w fun e w' => e = .returned (.int .i64 1) ∧ w' = w := by
  go_enter Try.func17, Try.ntmps17
  go_wp2
  go_ret
  exact ⟨rfl, rfl⟩

theorem left_any (g : Nat) (c : Int) (r : Rd) (w : World) (h : RAt w g c r) :
    Calls Try.prog 16 #[.pointer (some ⟨g, 0, none⟩)] w fun e w' => e = .returned (.int .i64 r.h.length) ∧ w' = w := by
  have h1 := h.c1
  have hs := mkS_size r.h
  rw [← hs]
  clear hs
  go_enter Try.func16, Try.ntmps16
  go_wp2
  go_ret
  exact ⟨rfl, rfl⟩

theorem left_nil (w : World) :
    Calls Try.prog 16 #[.pointer none] w fun e w' => e = .returned (.int .i64 0) ∧ w' = w := by
  go_enter Try.func16, Try.ntmps16
  go_wp2
  go_ret
  exact ⟨rfl, rfl⟩

end Go.Proofs.Ytbpflpngaipckaa
