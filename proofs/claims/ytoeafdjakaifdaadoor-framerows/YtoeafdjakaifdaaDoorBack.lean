/-
  The walk of FrameBack: it returns true and turns nothing that was there. Conditions: the names' table reads as it is laid; the frame's text is no longer than the greatest length; the slice reads as a list of bytes.
-/
import Derived.Test.YtoeafdjakaifdaaDoorLives
import Derived.Test.YtoeafdjakaifdaaDoorEnc
import Derived.Laws.AppendOwnNone
namespace Go.Proofs.YtoeafdjakaifdaaDoor
open Go.ChangeShapes Go.WideShapes Go.ChangeAt Go.RowKit

/-- What a frame's box holds when it has been written anew. -/
theorem boxedB {w w2 wA : World} {k : Int} {s S : ByteArray} (hb : Below (w.heap.size + 1) (w.alloc (.cells #[.int .i64 k, .string s] 23)) w2)
    (hA : (w2.setCell ⟨w.heap.size, 0, none⟩ (.int .i64 k)).setCell ⟨w.heap.size, 1, none⟩ (.string S) = wA) :
    wA.cell? ⟨w.heap.size, 0, none⟩ = some (.int .i64 k) ∧ wA.cell? ⟨w.heap.size, 1, none⟩ = some (.string S) ∧ Below w.heap.size w wA ∧ w.heap.size < wA.heap.size := by
  obtain ⟨h0, h1⟩ := box_cells hb
  subst hA
  refine ⟨?_, ?_, ?_, ?_⟩
  · simp [go_sem, h0]
  · simp [go_sem, h1]
  · exact ((((Below.refl _ _).alloc (Nat.le_refl _) _).trans (hb.mono (by omega))).setCell (Nat.le_refl _) _).setCell (Nat.le_refl _) _
  · have := hb.size
    simp at this
    simp [World.setCell]
    omega

/-- An owned row of some bytes lies at a block's head. -/
theorem owns_some {w : World} {base n : Nat} {v : Value} {bs : List UInt8} (h : w.ownsRow base 5 1 v n (bc bs)) (hn : 0 < n) :
    ∃ g cap, v = .slice (some ⟨g, 0, none⟩) n cap ∧ base ≤ g ∧ g < w.heap.size ∧ ∀ j u, (bc bs)[j]? = some u → w.cell? ((⟨g, 0, none⟩ : Addr).add j) = some u := by
  have h0 := h
  obtain ⟨hl, hcase⟩ := h
  rcases hcase with ⟨rfl, rfl⟩ | ⟨g, cap, cur, rfl, hb, hg, _, _, _, _⟩
  · omega
  · exact ⟨g, cap, rfl, hb, (Array.getElem?_eq_some_iff.1 hg).1, h0.cells (g := g) rfl⟩

theorem bc_one (bs : List UInt8) : ∀ u ∈ bc bs, u.oneCell' = true := by
  intro u hu
  simp only [bc, List.mem_map] at hu
  obtain ⟨b, _, rfl⟩ := hu
  rfl

theorem bc_append (l r : List UInt8) : bc (l ++ r) = bc l ++ bc r := by simp [bc]

/-- The cells that a slice of bytes hands to an append. -/
theorem BytesAt.news {w : World} {x : Addr} {len cap : Nat} {bs : List UInt8} (h : BytesAt w (some x) len cap bs) : ∀ j u, (bc bs)[j]? = some u → w.cell? (x.add j) = some u := by
  intro j u hu
  have hj : j < bs.length := by
    have := (List.getElem?_eq_some_iff.1 hu).1
    simpa [bc_length] using this
  obtain ⟨b, off, e, _, hc⟩ := h.at_ j (by have := h.hlen; omega)
  cases e
  have e0 : ((⟨b, off, none⟩ : Addr).add j) = ⟨b, off + j, none⟩ := by unfold Addr.add; split <;> simp_all
  rw [e0, hc]
  simp [bc, List.getD, hj] at hu ⊢
  exact hu

/-- An append of bytes onto a row of the call's own, whatever the slice is: nil, empty or not. -/
theorem append_bytes_any (w : World) {ops : Array Oper} {rest : List Oper} {o : Oper} {a : Act} {Q : Exit → Act → World → Prop} (hgd : o.guard = none) (s x : Operand)
    (ho : o.op = .call { callee := .builtin .append, args := #[s, x], argTypes := #[26, 26] }) (base : Nat) (i : TypeInfo) (hi : Tryd.prog.info? 5 = some i) (hz : i.zero = some (.int .u8 0)) (hsize : i.size = 1) (hby : i.bytes = 1)
    (v : Value) (n : Nat) (xs ys : List UInt8) (hs : a.eval s = v) (hown : w.ownsRow base 5 1 v n (bc xs)) (ao : Option Addr) (m c : Nat) (hx : a.eval x = .slice ao m c) (hB : BytesAt w ao m c ys) (hnone : ao = none → m = 0 ∧ c = 0)
    (h63 : n + m ≤ maxLen) (hbytes : n + m ≤ 140737488355328) (hbase : base ≤ w.heap.size)
    (h : ∀ v' w', w'.ownsRow base 5 1 v' (n + m) (bc (xs ++ ys)) → w.grownBy w' v.ownBlock → wpList Tryd.prog ops Q rest (a.put o.dst v') w') : wpList Tryd.prog ops Q (o :: rest) a w := by
  cases ao with
  | none =>
    obtain ⟨rfl, rfl⟩ := hnone rfl
    obtain rfl : ys = [] := List.eq_nil_of_length_eq_zero hB.hlen
    exact wpList_append_own_none hgd s x 26 ho base 5 i 1 Tryd.underlying26 hi v n _ hs hown hx (h v w (by simpa using hown) (World.grownBy.refl _ _))
  | some ad =>
    refine wpList_append_own w hgd s x 26 ho base 5 i (.int .u8 0) 1 1 Tryd.underlying26 hi hz hsize hby rfl (by decide) v n _ hs hown ad m c (bc ys) hx (by rw [bc_length, hB.hlen, Nat.mul_one]) hB.news (bc_one _) h63 (by omega) hbase ?_
    intro v' w' h1 h2 _
    exact h v' w' (by rw [bc_append]; exact h1) h2

set_option maxHeartbeats 1000000 in
set_option maxRecDepth 100000 in
theorem back_bad (k : Int) (s : ByteArray) (a : Option Addr) (len cap : Nat) (w : World) (hn : Names w) (hs : s.size ≤ maxLen) (hk : chk k (fewS s).size 1024 ≠ 0) :
    Calls Tryd.prog 5 #[.agg #[.int .i64 k, .string s], .slice a len cap] w fun e w' => e = .returned (.bool true) ∧ Below w.heap.size w w' := by
  go_enter Tryd.func5, Tryd.ntmps5
  go_wp2_with fail
  refine (lives_any _ (hn.below ((Below.refl _ _).alloc (Nat.le_refl _) _))).mono ?_
  rintro e w1 ⟨rfl, hb1⟩
  obtain ⟨hc1, hf1⟩ := bcell hb1
  have hz1 : w.heap.size < w1.heap.size := by have := hb1.size; simp at this; omega
  go_wp2_with fail
  refine (few_any k s _ hs).mono ?_
  rintro e w2 ⟨rfl, hb2⟩
  have hB2 : Below (w.heap.size + 1) (w.alloc (.cells #[.int .i64 k, .string s] 23)) w2 := (hb1.mono (by simp)).trans (hb2.mono (by omega))
  obtain ⟨hc2, hf2⟩ := bcell hb2
  go_wp2_with fail
  clear hc1 hf1 hb1 hc2 hf2 hb2
  generalize hwA : (World.setCell (World.setCell w2 _ _) _ _) = wA
  obtain ⟨c0, c1, bA, zA⟩ := boxedB hB2 hwA
  clear hwA hB2 hz1
  refine (write_bad k (fewS s) 1024 wA hk).mono ?_
  rintro e w3 ⟨rfl, hb3⟩
  have hne : (chk k (fewS s).size 1024 != 0) = true := by simpa using hk
  clear hk
  go_wp2
  go_ret
  exact ⟨rfl, bA.trans (hb3.mono (by omega))⟩

set_option maxHeartbeats 1000000 in
set_option maxRecDepth 100000 in
theorem back_ok (k : Int) (s : ByteArray) (a : Option Addr) (len cap : Nat) (bs : List UInt8) (w : World) (hn : Names w) (hs : s.size ≤ maxLen) (h : BytesAt w a len cap bs) (hnil : a = none → len = 0 ∧ cap = 0) (hk : chk k (fewS s).size 1024 = 0) :
    Calls Tryd.prog 5 #[.agg #[.int .i64 k, .string s], .slice a len cap] w fun e w' => e = .returned (.bool true) ∧ Below w.heap.size w w' := by
  obtain ⟨i0, hi, hz0, hz1, hz2⟩ := info_parts Tryd.info5
  have hf := fewS_size s
  have HK : Hid (chk k (fewS s).size 1024 = 0) := hk
  have NIL : Hid (a = none → min len 300 = 0 ∧ cap = 0) := fun e => ⟨by have := (hnil e).1; omega, (hnil e).2⟩
  have hm300 : min len 300 ≤ 300 := Nat.min_le_right _ _
  clear hnil
  go_enter Tryd.func5, Tryd.ntmps5
  go_wp2_with fail
  refine (lives_any _ (hn.below ((Below.refl _ _).alloc (Nat.le_refl _) _))).mono ?_
  rintro e w1 ⟨rfl, hb1⟩
  obtain ⟨hc1, hf1⟩ := bcell hb1
  have hzw : w.heap.size < w1.heap.size := by have := hb1.size; simp at this; omega
  go_wp2_with fail
  refine (few_any k s _ hs).mono ?_
  rintro e w2 ⟨rfl, hb2⟩
  have hB2 : Below (w.heap.size + 1) (w.alloc (.cells #[.int .i64 k, .string s] 23)) w2 := (hb1.mono (by simp)).trans (hb2.mono (by omega))
  obtain ⟨hc2, hf2⟩ := bcell hb2
  go_wp2_with fail
  clear hc1 hf1 hb1 hc2 hf2 hb2
  generalize hwA : (World.setCell (World.setCell w2 _ _) _ _) = wA
  obtain ⟨c0, c1, bA, zA⟩ := boxedB hB2 hwA
  clear hwA hB2 hzw
  clear w1 w2
  generalize fewS s = S at hk hf c1 HK
  refine (write_ok k S 1024 wA hk).mono ?_
  rintro e w3 ⟨v3, rfl, o3, hb3⟩
  obtain ⟨g3, cp3, rfl, hg3, hg3', n3⟩ := owns_some o3 (by omega)
  have e0 : w3.cell? ⟨w.heap.size, 0, none⟩ = some (.int .i64 k) := (hb3.cell (p := ⟨w.heap.size, 0, none⟩) zA).trans c0
  have e1 : w3.cell? ⟨w.heap.size, 1, none⟩ = some (.string S) := (hb3.cell (p := ⟨w.heap.size, 1, none⟩) zA).trans c1
  have b3 : Below w.heap.size w w3 := bA.trans (hb3.mono (by omega))
  have z3 : w.heap.size < w3.heap.size := Nat.lt_of_lt_of_le zA hb3.size
  clear hb3 c0 c1 bA zA hk
  go_wp2_with (at_builtin; refine wpList_append_own _ rfl _ _ 26 rfl w3.heap.size 5 i0 (.int .u8 0) 1 1 Tryd.underlying26 hi hz0 hz1 hz2 rfl (by decide) _ 0 _ rfl (World.ownsRow_nil _ _ _ _) ⟨g3, 0, none⟩ (3 + S.size) cp3 (bc (encB ⟨k, S⟩)) rfl (by rw [bc_length, encB_length, Nat.mul_one]) n3 (bc_one _) (by unfold maxLen; omega) (by omega) (Nat.le_refl _) ?_)
  intro v4 w4 o4 gr4 _
  have f0 : w4.cell? ⟨w.heap.size, 0, none⟩ = some (.int .i64 k) := gr4.cell e0 (by intro e; cases e)
  have f1 : w4.cell? ⟨w.heap.size, 1, none⟩ = some (.string S) := gr4.cell e1 (by intro e; cases e)
  have b4 : Below w.heap.size w w4 := b3.grown gr4 (by omega) (fun j hj => by cases hj)
  have z4 : w3.heap.size ≤ w4.heap.size := gr4.size
  have h4 := (h.below b4).take (n := min len 300) (Nat.min_le_left _ _)
  have hle := h.hle
  have hcp := h.hcap
  clear gr4 e0 e1 b3 n3 o3 h
  go_wp2_with fail
  refine (bytes_any a len cap _ hle hcp).mono ?_
  rintro e w' ⟨rfl, rfl⟩
  generalize min len 300 = m at h4 hm300 NIL
  generalize bs.take m = ys at h4
  go_wp2_with (at_builtin; refine append_bytes_any _ rfl _ _ rfl w3.heap.size i0 hi hz0 hz1 hz2 _ _ _ ys rfl o4 a m cap rfl h4 NIL.out (by unfold maxLen; omega) (by omega) (by omega) ?_)
  intro v5 w5 o5 gr5
  have hne : some w.heap.size ≠ v4.ownBlock := fun e => by have := (o4.lt _ e.symm).1; omega
  have g0 : w5.cell? ⟨w.heap.size, 0, none⟩ = some (.int .i64 k) := gr5.cell f0 hne
  have g1 : w5.cell? ⟨w.heap.size, 1, none⟩ = some (.string S) := gr5.cell f1 hne
  have b5 : Below w.heap.size w w5 := b4.grown gr5 (by omega) (fun j hj => by have := (o4.lt j hj).1; omega)
  have z5 : w.heap.size < w5.heap.size := by have := gr5.size; omega
  obtain ⟨a5, c5, rfl, h5⟩ := owns_bytes o5
  have hrd := read_enc HK.out ys
  clear gr5 hne f0 f1 b4 o4 h4 o5 z4 HK
  go_wp2_with fail
  refine (read_any _ _ _ _ 1024 _ h5).mono ?_
  rintro e w6 ⟨rfl, hb6⟩
  rw [hrd]
  have k0 : w6.cell? ⟨w.heap.size, 0, none⟩ = some (.int .i64 k) := (hb6.cell (p := ⟨w.heap.size, 0, none⟩) z5).trans g0
  have k1 : w6.cell? ⟨w.heap.size, 1, none⟩ = some (.string S) := (hb6.cell (p := ⟨w.heap.size, 1, none⟩) z5).trans g1
  have b6 : Below w.heap.size w w6 := b5.trans (hb6.mono (by omega))
  have z6 : w.heap.size < w6.heap.size := Nat.lt_of_lt_of_le z5 hb6.size
  clear hb6 g0 g1 b5 h5 hrd
  go_wp2
  go_ret
  exact ⟨rfl, b6.alloc (by omega) _⟩

theorem back_any (k : Int) (s : ByteArray) (a : Option Addr) (len cap : Nat) (bs : List UInt8) (w : World) (hn : Names w) (hs : s.size ≤ maxLen) (h : BytesAt w a len cap bs) (hnil : a = none → len = 0 ∧ cap = 0) :
    Calls Tryd.prog 5 #[.agg #[.int .i64 k, .string s], .slice a len cap] w fun e w' => e = .returned (.bool true) ∧ Below w.heap.size w w' := by
  by_cases hk : chk k (fewS s).size 1024 = 0
  · exact back_ok k s a len cap bs w hn hs h hnil hk
  · exact back_bad k s a len cap w hn hs hk

end Go.Proofs.YtoeafdjakaifdaaDoor
