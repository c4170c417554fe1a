/-
  The walk of FrameWrites: it returns true and turns nothing that was there. Conditions: the names' table reads as it is laid; the frame's text is no longer than the greatest length.
-/
import Derived.Test.YtoeafdjakaifdaaDoorBack
import Derived.Deep.RegionHeld3
import Derived.Deep.DrawnRows
namespace Go.Proofs.YtoeafdjakaifdaaDoor
open Go.ChangeShapes Go.WideShapes Go.ChangeAt Go.RowKit
attribute [local go_sem ↓] Go.wp_at_zero Go.wp_at_succ

/-- What lasts through the last statement: the frame's box, both texts, the names' table. -/
def Lasts (w : World) (B : Nat) (v1 v2 : Value) (bs : List UInt8) (w' : World) : Prop :=
  Names w' ∧ w'.ownsRow B 5 1 v1 bs.length (bc bs) ∧ w'.ownsRow B 5 1 v2 bs.length (bc bs) ∧ Below w.heap.size w w' ∧ w.heap.size < w'.heap.size

theorem lasts_step {w wA w1 : World} {B : Nat} {v1 v2 : Value} {bs : List UInt8} {k : Int} {S : ByteArray}
    (h : wA.cell? ⟨w.heap.size, 0, none⟩ = some (.int .i64 k) ∧ wA.cell? ⟨w.heap.size, 1, none⟩ = some (.string S) ∧ (convert 26 9 v1).run Tryd.prog wA = .ok (.string (mkS bs)) wA ∧ (convert 26 9 v2).run Tryd.prog wA = .ok (.string (mkS bs)) wA ∧ Lasts w B v1 v2 bs wA)
    (hb : Below wA.heap.size wA w1) :
    w1.cell? ⟨w.heap.size, 0, none⟩ = some (.int .i64 k) ∧ w1.cell? ⟨w.heap.size, 1, none⟩ = some (.string S) ∧ (convert 26 9 v1).run Tryd.prog w1 = .ok (.string (mkS bs)) w1 ∧ (convert 26 9 v2).run Tryd.prog w1 = .ok (.string (mkS bs)) w1 ∧ Lasts w B v1 v2 bs w1 := by
  obtain ⟨h0, h1, _, _, hn, o1, o2, hB, hz⟩ := h
  exact ⟨(hb.cell (p := ⟨w.heap.size, 0, none⟩) hz).trans h0, (hb.cell (p := ⟨w.heap.size, 1, none⟩) hz).trans h1, conv_owned (owns_below o1 hb), conv_owned (owns_below o2 hb),
    hn.below hb, owns_below o1 hb, owns_below o2 hb, hB.trans (hb.mono (by omega)), Nat.lt_of_lt_of_le hz hb.size⟩

theorem names_of_held {w wA : World} {B : Nat} {v1 v2 : Value} {bs : List UInt8} {k : Int} {S : ByteArray}
    (h : wA.cell? ⟨w.heap.size, 0, none⟩ = some (.int .i64 k) ∧ wA.cell? ⟨w.heap.size, 1, none⟩ = some (.string S) ∧ (convert 26 9 v1).run Tryd.prog wA = .ok (.string (mkS bs)) wA ∧ (convert 26 9 v2).run Tryd.prog wA = .ok (.string (mkS bs)) wA ∧ Lasts w B v1 v2 bs wA) : Names wA := h.2.2.2.2.1
theorem below_of_held {w wA : World} {B : Nat} {v1 v2 : Value} {bs : List UInt8} {k : Int} {S : ByteArray}
    (h : wA.cell? ⟨w.heap.size, 0, none⟩ = some (.int .i64 k) ∧ wA.cell? ⟨w.heap.size, 1, none⟩ = some (.string S) ∧ (convert 26 9 v1).run Tryd.prog wA = .ok (.string (mkS bs)) wA ∧ (convert 26 9 v2).run Tryd.prog wA = .ok (.string (mkS bs)) wA ∧ Lasts w B v1 v2 bs wA) : Below w.heap.size w wA := h.2.2.2.2.2.2.2.1

set_option maxHeartbeats 4000000 in
set_option maxRecDepth 100000 in
theorem writes_ok (k : Int) (s : ByteArray) (c : Int) (w : World) (hn : Names w) (hs : s.size ≤ maxLen) (hk : chk k (fewS s).size c = 0) :
    Calls Tryd.prog 3 #[.agg #[.int .i64 k, .string s], .int .i64 c] w fun e w' => e = .returned (.bool true) ∧ Below w.heap.size w w' := by
  have hf := fewS_size s
  have hn0 := hn.below ((Below.refl w.heap.size w).alloc (Nat.le_refl _) (.cells #[.int .i64 k, .string s] 23))
  go_enter Tryd.func3, Tryd.ntmps3
  go_wp2_with fail
  refine (lives_any _ hn0).mono ?_
  rintro e w1 ⟨rfl, hb1⟩
  obtain ⟨hc1, hf1⟩ := bcell hb1
  have hz1 : w.heap.size < w1.heap.size := by have := hb1.size; simp at this; omega
  go_wp2_with fail
  refine (few_any k s _ hs).mono ?_
  rintro e w2 ⟨rfl, hb2⟩
  have hB2 : Below (w.heap.size + 1) (w.alloc (.cells #[.int .i64 k, .string s] 23)) w2 := (hb1.mono (by simp)).trans (hb2.mono (by omega))
  obtain ⟨hc2, hf2⟩ := bcell hb2
  go_wp2_with fail
  clear hc1 hf1 hb1 hc2 hf2 hb2 hn0
  generalize hwA : (World.setCell (World.setCell w2 _ _) _ _) = wA
  obtain ⟨c0, c1, bA, zA⟩ := boxedB hB2 hwA
  have nA := hn.below bA
  clear hwA hB2 hz1
  clear w1 w2
  generalize fewS s = S at hk hf c1
  refine (write_ok k S c wA hk).mono ?_
  rintro e w3 ⟨v3, rfl, o3, hb3⟩
  have e0 : w3.cell? ⟨w.heap.size, 0, none⟩ = some (.int .i64 k) := (hb3.cell (p := ⟨w.heap.size, 0, none⟩) zA).trans c0
  have e1 : w3.cell? ⟨w.heap.size, 1, none⟩ = some (.string S) := (hb3.cell (p := ⟨w.heap.size, 1, none⟩) zA).trans c1
  have b3 : Below w.heap.size w w3 := bA.trans (hb3.mono (by omega))
  have z3 : w.heap.size < w3.heap.size := Nat.lt_of_lt_of_le zA hb3.size
  have n3 := nA.below hb3
  have zA3 : wA.heap.size ≤ w3.heap.size := hb3.size
  clear hb3 c0 c1 bA zA nA
  obtain ⟨a3, p3, rfl, _⟩ := owns_bytes o3
  go_wp2_with fail
  refine (rwrite_ok k S c w3 hk).mono ?_
  rintro e w4 ⟨v4, rfl, o4, hb4⟩
  have len : (encB ⟨k, S⟩).length = 3 + S.size := encB_length _
  have q3 := owns_below o3 hb4
  have q4 := owns_base o4 zA3
  have n4 := n3.below hb4
  have L4 : Lasts w wA.heap.size (.slice a3 (3 + S.size) p3) v4 (encB ⟨k, S⟩) w4.drew := ⟨⟨n4.pos, n4.at_⟩, by rw [len]; exact q3, by rw [len]; exact q4, (b3.trans (hb4.mono (by omega))).drew, Nat.lt_of_lt_of_le z3 hb4.size⟩
  have f0 : w4.cell? ⟨w.heap.size, 0, none⟩ = some (.int .i64 k) := (hb4.cell (p := ⟨w.heap.size, 0, none⟩) z3).trans e0
  have f1 : w4.cell? ⟨w.heap.size, 1, none⟩ = some (.string S) := (hb4.cell (p := ⟨w.heap.size, 1, none⟩) z3).trans e1
  have C3 : (convert 26 9 (.slice a3 (3 + S.size) p3)).run Tryd.prog w4.drew = .ok (.string (mkS (encB ⟨k, S⟩))) w4.drew := conv_owned L4.2.1
  have C4 : (convert 26 9 v4).run Tryd.prog w4.drew = .ok (.string (mkS (encB ⟨k, S⟩))) w4.drew := conv_owned L4.2.2.1
  obtain ⟨a4, p4, rfl, _⟩ := owns_bytes o4
  clear hb4 e0 e1 b3 o3 o4 q3 q4 n3 n4 len
  go_wp2
  generalize encB ⟨k, S⟩ = bs at L4 C3 C4
  go_region_held3 (fun w' => w'.cell? ⟨w.heap.size, 0, none⟩ = some (.int .i64 k) ∧ w'.cell? ⟨w.heap.size, 1, none⟩ = some (.string S) ∧ (convert 26 9 (.slice a3 (3 + S.size) p3)).run Tryd.prog w' = .ok (.string (mkS bs)) w' ∧ (convert 26 9 (.slice a4 (3 + S.size) p4)).run Tryd.prog w' = .ok (.string (mkS bs)) w' ∧ Lasts w wA.heap.size (.slice a3 (3 + S.size) p3) (.slice a4 (3 + S.size) p4) bs w')
    (first | exact lasts_step (by assumption) hbx | go_keep)
    (first
      | (go_at_call 13; refine (right_any _ _ _ _).mono ?_; rintro e w' ⟨rfl, hbx⟩)
      | (go_at_call 14; refine (rright_any _ _ _ _).mono ?_; rintro e w' ⟨rfl, hbx⟩)
      | (go_at_call 15; refine (client_any _ _).mono ?_; rintro e w' ⟨rfl, rfl⟩)
      | (go_at_call 16; refine (rclient_any _ _).mono ?_; rintro e w' ⟨rfl, rfl⟩)
      | (go_at_call 17; refine (host_any _ _).mono ?_; rintro e w' ⟨rfl, rfl⟩)
      | (go_at_call 18; refine (rhost_any _ _).mono ?_; rintro e w' ⟨rfl, rfl⟩)
      | (go_at_call 19; refine (name_any _ _ ?_).mono ?_; (refine names_of_held (w := w) (B := wA.heap.size) (v1 := .slice a3 (3 + S.size) p3) (v2 := .slice a4 (3 + S.size) p4) (bs := bs) (k := k) (S := S) ?_; assumption); rintro e w' ⟨rfl, rfl⟩)
      | (go_at_call 20; refine (rname_any _ _).mono ?_; rintro e w' ⟨rfl, hbx⟩))
  go_wp2
  go_ret
  refine ⟨rfl, ?_⟩
  refine below_of_held (w := w) (B := wA.heap.size) (v1 := .slice a3 (3 + S.size) p3) (v2 := .slice a4 (3 + S.size) p4) (bs := bs) (k := k) (S := S) ?_
  assumption

set_option maxHeartbeats 4000000 in
set_option maxRecDepth 100000 in
theorem writes_bad (k : Int) (s : ByteArray) (c : Int) (w : World) (hn : Names w) (hs : s.size ≤ maxLen) (hk : chk k (fewS s).size c ≠ 0) :
    Calls Tryd.prog 3 #[.agg #[.int .i64 k, .string s], .int .i64 c] w fun e w' => e = .returned (.bool true) ∧ Below w.heap.size w w' := by
  have hf := fewS_size s
  have hn0 := hn.below ((Below.refl w.heap.size w).alloc (Nat.le_refl _) (.cells #[.int .i64 k, .string s] 23))
  go_enter Tryd.func3, Tryd.ntmps3
  go_wp2_with fail
  refine (lives_any _ hn0).mono ?_
  rintro e w1 ⟨rfl, hb1⟩
  obtain ⟨hc1, hf1⟩ := bcell hb1
  have hz1 : w.heap.size < w1.heap.size := by have := hb1.size; simp at this; omega
  go_wp2_with fail
  refine (few_any k s _ hs).mono ?_
  rintro e w2 ⟨rfl, hb2⟩
  have hB2 : Below (w.heap.size + 1) (w.alloc (.cells #[.int .i64 k, .string s] 23)) w2 := (hb1.mono (by simp)).trans (hb2.mono (by omega))
  obtain ⟨hc2, hf2⟩ := bcell hb2
  go_wp2_with fail
  clear hc1 hf1 hb1 hc2 hf2 hb2 hn0
  generalize hwA : (World.setCell (World.setCell w2 _ _) _ _) = wA
  obtain ⟨c0, c1, bA, zA⟩ := boxedB hB2 hwA
  have nA := hn.below bA
  clear hwA hB2 hz1
  clear w1 w2
  generalize fewS s = S at hk hf c1
  refine (write_bad k S c wA hk).mono ?_
  rintro e w3 ⟨rfl, hb3⟩
  have e0 : w3.cell? ⟨w.heap.size, 0, none⟩ = some (.int .i64 k) := (hb3.cell (p := ⟨w.heap.size, 0, none⟩) zA).trans c0
  have e1 : w3.cell? ⟨w.heap.size, 1, none⟩ = some (.string S) := (hb3.cell (p := ⟨w.heap.size, 1, none⟩) zA).trans c1
  have b3 : Below w.heap.size w w3 := bA.trans (hb3.mono (by omega))
  have z3 : w.heap.size < w3.heap.size := Nat.lt_of_lt_of_le zA hb3.size
  have n3 := nA.below hb3
  clear hb3 c0 c1 bA zA nA
  go_wp2_with fail
  refine (rwrite_bad k S c w3 hk).mono ?_
  rintro e w4 ⟨rfl, hb4⟩
  have n4 := n3.below hb4
  have L4 : Lasts w wA.heap.size (.slice none 0 0) (.slice none 0 0) [] w4.drew := ⟨⟨n4.pos, n4.at_⟩, World.ownsRow_nil _ _ _ _, World.ownsRow_nil _ _ _ _, (b3.trans (hb4.mono (by omega))).drew, Nat.lt_of_lt_of_le z3 hb4.size⟩
  have f0 : w4.cell? ⟨w.heap.size, 0, none⟩ = some (.int .i64 k) := (hb4.cell (p := ⟨w.heap.size, 0, none⟩) z3).trans e0
  have f1 : w4.cell? ⟨w.heap.size, 1, none⟩ = some (.string S) := (hb4.cell (p := ⟨w.heap.size, 1, none⟩) z3).trans e1
  have C3 : (convert 26 9 (.slice none 0 0)).run Tryd.prog w4.drew = .ok (.string (mkS [])) w4.drew := conv_owned L4.2.1
  have C4 : (convert 26 9 (.slice none 0 0)).run Tryd.prog w4.drew = .ok (.string (mkS [])) w4.drew := C3
  clear hb4 e0 e1 b3 n3 n4
  go_wp2
  go_region_held3 (fun w' => w'.cell? ⟨w.heap.size, 0, none⟩ = some (.int .i64 k) ∧ w'.cell? ⟨w.heap.size, 1, none⟩ = some (.string S) ∧ (convert 26 9 (.slice none 0 0)).run Tryd.prog w' = .ok (.string (mkS [])) w' ∧ (convert 26 9 (.slice none 0 0)).run Tryd.prog w' = .ok (.string (mkS [])) w' ∧ Lasts w wA.heap.size (.slice none 0 0) (.slice none 0 0) [] w')
    (first | exact lasts_step (by assumption) hbx | go_keep)
    (first
      | (go_at_call 13; refine (right_any _ _ _ _).mono ?_; rintro e w' ⟨rfl, hbx⟩)
      | (go_at_call 14; refine (rright_any _ _ _ _).mono ?_; rintro e w' ⟨rfl, hbx⟩)
      | (go_at_call 15; refine (client_any _ _).mono ?_; rintro e w' ⟨rfl, rfl⟩)
      | (go_at_call 16; refine (rclient_any _ _).mono ?_; rintro e w' ⟨rfl, rfl⟩)
      | (go_at_call 17; refine (host_any _ _).mono ?_; rintro e w' ⟨rfl, rfl⟩)
      | (go_at_call 18; refine (rhost_any _ _).mono ?_; rintro e w' ⟨rfl, rfl⟩)
      | (go_at_call 19; refine (name_any _ _ ?_).mono ?_; (refine names_of_held (w := w) (B := wA.heap.size) (v1 := .slice none 0 0) (v2 := .slice none 0 0) (bs := []) (k := k) (S := S) ?_; assumption); rintro e w' ⟨rfl, rfl⟩)
      | (go_at_call 20; refine (rname_any _ _).mono ?_; rintro e w' ⟨rfl, hbx⟩))
  go_wp2
  go_ret
  refine ⟨rfl, ?_⟩
  refine below_of_held (w := w) (B := wA.heap.size) (v1 := .slice none 0 0) (v2 := .slice none 0 0) (bs := []) (k := k) (S := S) ?_
  assumption

theorem writes_any (k : Int) (s : ByteArray) (c : Int) (w : World) (hn : Names w) (hs : s.size ≤ maxLen) :
    Calls Tryd.prog 3 #[.agg #[.int .i64 k, .string s], .int .i64 c] w fun e w' => e = .returned (.bool true) ∧ Below w.heap.size w w' := by
  by_cases hk : chk k (fewS s).size c = 0
  · exact writes_ok k s c w hn hs hk
  · exact writes_bad k s c w hn hs hk

end Go.Proofs.YtoeafdjakaifdaaDoor
