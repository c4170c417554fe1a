/-
  What the document's own Write does: the error that the check names; or none, and a new row of the frame's bytes. No conditions (a text within the cap is short).
-/
import Derived.Test.YtbpflpngaipckaaSmall
namespace Go.Proofs.Ytbpflpngaipckaa
open Go.ChangeShapes Go.WideShapes Go.ChangeAt Go.RowKit

theorem Try.info5 : (Try.prog.info? 5).map (fun i => (i.zero, i.size, i.bytes)) = some (some (.int .u8 0), 1, 1) := by kernel_rfl

theorem rwrite_bad (k : Int) (s : ByteArray) (c : Int) (w : World) (h : chk k s.size c ≠ 0) :
    Calls Try.prog 29 #[.agg #[.int .i64 k, .string s], .int .i64 c] w fun e w' => e = .returned (.tuple #[.slice none 0 0, .int .i64 (chk k s.size c)]) ∧ Below w.heap.size w w' := by
  have hne : (chk k s.size c != 0) = true := by simpa using h
  clear h
  go_enter Try.func29, Try.ntmps29
  go_wp2_with (first
    | (go_at_call 34; refine (rright_any _ _ _ _).mono ?_; rintro e w1 ⟨rfl, hb⟩))
  go_ret2
  exact ⟨rfl, ((Below.refl _ _).alloc (Nat.le_refl _) _).trans (hb.mono (by simp))⟩

/-- A row that was built whole is owned. -/
theorem owns_built {w : World} {base g n : Nat} {e : TypeId} {cur : Array Value} (hb : base ≤ g) (hg : w.heap[g]? = some (.cells cur e (0, 0))) (hn : cur.size = n) (hm : n ≤ maxLen) : w.ownsRow base e 1 (.slice (some ⟨g, 0, none⟩) n n) n cur.toList :=
  ⟨by simp [hn], .inr ⟨g, n, cur, rfl, hb, hg, Nat.le_refl _, hm, by omega, by rw [Nat.mul_one, ← hn]; exact List.take_of_length_le (by simp)⟩⟩

theorem enc_cells (k : Int) (s : ByteArray) (h1 : 1 ≤ k) (h2 : k ≤ 8) (h3 : s.size ≤ 1024) :
    [Value.int .u8 k, .int .u8 ((s.size : Int) / 256), .int .u8 ((s.size : Int) % 256)] ++ Lib.strCells s = bc (encB ⟨k, s⟩) := by
  have e1 : (((UInt8.ofNat k.toNat).toNat : Nat) : Int) = k := by
    rw [UInt8.toNat_ofNat']
    omega
  have e2 : (((UInt8.ofNat (s.size / 256)).toNat : Nat) : Int) = (s.size : Int) / 256 := by
    rw [UInt8.toNat_ofNat']
    omega
  have e3 : (((UInt8.ofNat (s.size % 256)).toNat : Nat) : Int) = (s.size : Int) % 256 := by
    rw [UInt8.toNat_ofNat']
    omega
  show _ = [Value.int .u8 ((UInt8.ofNat k.toNat).toNat : Nat), .int .u8 ((UInt8.ofNat (s.size / 256)).toNat : Nat), .int .u8 ((UInt8.ofNat (s.size % 256)).toNat : Nat)] ++ Lib.strCells s
  rw [e1, e2, e3]

set_option maxHeartbeats 400000 in
theorem rwrite_ok (k : Int) (s : ByteArray) (c : Int) (w : World) (h : chk k s.size c = 0) :
    Calls Try.prog 29 #[.agg #[.int .i64 k, .string s], .int .i64 c] w fun e w' => ∃ v, e = .returned (.tuple #[v, .int .i64 0]) ∧ w'.ownsRow w.heap.size 5 1 v (3 + s.size) (bc (encB ⟨k, s⟩)) ∧ Below w.heap.size w w' := by
  obtain ⟨h1, h2, h3⟩ := chk_zero h
  have h4 := capd_hi c
  have h5 : (s.size : Int) ≤ 1024 := by omega
  have h6 : s.size ≤ 1024 := by omega
  clear h3 h4
  obtain ⟨i0, hi, hz0, hz1, hz2⟩ := info_parts Try.info5
  go_enter Try.func29, Try.ntmps29
  go_wp2_with fail
  refine (rright_any _ _ _ _).mono ?_
  rintro e w1 ⟨rfl, hb⟩
  obtain ⟨hc, hf⟩ := bcell hb
  have hz : w.heap.size < w1.heap.size := by have := hb.size; simp at this; omega
  go_wp2_with (at_builtin; refine Lib.wpList_append_own_string _ rfl _ _ 50 9 rfl w.heap.size 5 i0 Try.underlying50 Try.underlying9 hi hz0 hz1 hz2 _ 3 _ rfl (owns_built (g := w1.heap.size) (by omega) (heap_alloc_new w1 _) rfl (by unfold maxLen; omega)) s rfl (by unfold maxLen; omega) (by omega) (by simp; omega) ?_)
  intro v' w2 hown hgrow _
  go_wp2
  go_ret2
  refine ⟨v', rfl, ?_, ?_⟩
  · rw [← enc_cells k s h1 h2 h6]
    exact hown
  · refine ((((Below.refl _ _).alloc (Nat.le_refl _) _).trans (hb.mono (by simp))).alloc (by omega) _).grown hgrow (by simp; omega) ?_
    intro j hj
    simp [Value.ownBlock] at hj
    omega

/-- What a frame's box holds, as long as nothing below is written. -/
theorem box_cells {w w' : World} {k : Int} {s : ByteArray} (hb : Below (w.heap.size + 1) (w.alloc (.cells #[.int .i64 k, .string s] 48)) w') :
    w'.cell? ⟨w.heap.size, 0, none⟩ = some (.int .i64 k) ∧ w'.cell? ⟨w.heap.size, 1, none⟩ = some (.string s) :=
  ⟨(hb.cell (p := ⟨w.heap.size, 0, none⟩) (Nat.lt_succ_self _)).trans (by simp [go_sem]), (hb.cell (p := ⟨w.heap.size, 1, none⟩) (Nat.lt_succ_self _)).trans (by simp [go_sem])⟩

end Go.Proofs.Ytbpflpngaipckaa
