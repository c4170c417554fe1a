/-
  Words for what lies in memory (a slice of bytes reads as a list; a slice of frames reads as a list), how they last while a call writes nothing that was there, and how a slice of them reads. No conditions.
-/
import Derived.Test.YtbpflpngaipckaaBase
namespace Go.Proofs.Ytbpflpngaipckaa
open Go.ChangeShapes Go.WideShapes Go.ChangeAt Go.RowKit

theorem bcell {W w1 : World} (hb : Below W.heap.size W w1) : (∀ b o, b < W.heap.size → w1.cell? ⟨b, o, none⟩ = W.cell? ⟨b, o, none⟩) ∧ (∀ b o, b < W.heap.size → w1.frozen? ⟨b, o, none⟩ = W.frozen? ⟨b, o, none⟩) :=
  ⟨fun b o h => hb.cell (p := ⟨b, o, none⟩) h, fun b o h => hb.frozen (p := ⟨b, o, none⟩) h⟩

theorem owns_below {w w' : World} {base : Nat} {e : TypeId} {size : Nat} {v : Value} {n : Nat} {xs : List Value} (h : w.ownsRow base e size v n xs) (hb : Below w.heap.size w w') : w'.ownsRow base e size v n xs := by
  refine ⟨h.1, ?_⟩
  rcases h.2 with hn | ⟨g, cap, cur, rfl, hbg, hgg, rest⟩
  · exact .inl hn
  · exact .inr ⟨g, cap, cur, rfl, hbg, by rw [hb.block g (Array.getElem?_eq_some_iff.1 hgg).1]; exact hgg, rest⟩

theorem owns_base {w : World} {base base' : Nat} {e : TypeId} {size : Nat} {v : Value} {n : Nat} {xs : List Value} (h : w.ownsRow base e size v n xs) (hb : base' ≤ base) : w.ownsRow base' e size v n xs := by
  refine ⟨h.1, ?_⟩
  rcases h.2 with hn | ⟨g, cap, cur, rfl, hbg, hgg, rest⟩
  · exact .inl hn
  · exact .inr ⟨g, cap, cur, rfl, Nat.le_trans hb hbg, hgg, rest⟩

/-- The slice (a, len, cap) reads as the bytes bs. -/
structure BytesAt (w : World) (a : Option Addr) (len cap : Nat) (bs : List UInt8) : Prop where
  hlen : bs.length = len
  hle : len ≤ cap
  hcap : cap ≤ maxLen
  at_ : ∀ j, j < len → ∃ b off, a = some ⟨b, off, none⟩ ∧ b < w.heap.size ∧ w.cell? ⟨b, off + j, none⟩ = some (.int .u8 (bs.getD j 0).toNat)

theorem BytesAt.below {w w' : World} {a : Option Addr} {len cap : Nat} {bs : List UInt8} (h : BytesAt w a len cap bs) (hb : Below w.heap.size w w') : BytesAt w' a len cap bs := by
  refine ⟨h.hlen, h.hle, h.hcap, fun j hj => ?_⟩
  obtain ⟨b, off, e, hlt, hc⟩ := h.at_ j hj
  exact ⟨b, off, e, Nat.lt_of_lt_of_le hlt hb.size, (hb.cell (p := ⟨b, off + j, none⟩) hlt).trans hc⟩

theorem BytesAt.nil (w : World) (a : Option Addr) (cap : Nat) (h : cap ≤ maxLen) : BytesAt w a 0 cap [] := ⟨rfl, Nat.zero_le _, h, fun _ hj => absurd hj (Nat.not_lt_zero _)⟩

/-- Its first n. -/
theorem BytesAt.take {w : World} {a : Option Addr} {len cap : Nat} {bs : List UInt8} (h : BytesAt w a len cap bs) {n : Nat} (hn : n ≤ len) : BytesAt w a n cap (bs.take n) := by
  refine ⟨by rw [List.length_take, h.hlen]; omega, Nat.le_trans hn h.hle, h.hcap, fun j hj => ?_⟩
  obtain ⟨b, off, e, hlt, hc⟩ := h.at_ j (by omega)
  refine ⟨b, off, e, hlt, hc.trans ?_⟩
  simp [List.getD, hj]

/-- From n on: as the model writes it. -/
theorem BytesAt.drop {w : World} {a : Option Addr} {len cap : Nat} {bs : List UInt8} (h : BytesAt w a len cap bs) {n : Nat} (hn : n ≤ len) : BytesAt w (if cap = n then a else a.map (·.add (n * 1))) (len - n) (cap - n) (bs.drop n) := by
  refine ⟨by rw [List.length_drop, h.hlen], by have := h.hle; omega, by have := h.hcap; omega, fun j hj => ?_⟩
  obtain ⟨b, off, e, hlt, hc⟩ := h.at_ (n + j) (by omega)
  have hne : cap ≠ n := by have := h.hle; omega
  have e0 : ((⟨b, off, none⟩ : Addr).add (n * 1)) = ⟨b, off + n, none⟩ := by unfold Addr.add; split <;> simp_all
  refine ⟨b, off + n, ?_, hlt, ?_⟩
  · rw [if_neg hne, e]
    simp only [Option.map_some, e0]
  · have e1 : off + n + j = off + (n + j) := by omega
    rw [e1, hc]
    simp [List.getD, List.getElem?_drop]

/-- The slice (a, len, cap) reads as the frames fs. -/
structure FramesAt (w : World) (a : Option Addr) (len cap : Nat) (fs : List Fr) : Prop where
  hlen : fs.length = len
  hle : len ≤ cap
  hcap : cap ≤ maxLen
  at_ : ∀ j, j < len → ∃ b off, a = some ⟨b, off, none⟩ ∧ b < w.heap.size ∧ w.cell? ⟨b, off + j * 2, none⟩ = some (.int .i64 (fs.getD j Fr.zero).k) ∧ w.cell? ⟨b, off + j * 2 + 1, none⟩ = some (.string (fs.getD j Fr.zero).s)

theorem FramesAt.below {w w' : World} {a : Option Addr} {len cap : Nat} {bs : List Fr} (h : FramesAt w a len cap bs) (hb : Below w.heap.size w w') : FramesAt w' a len cap bs := by
  refine ⟨h.hlen, h.hle, h.hcap, fun j hj => ?_⟩
  obtain ⟨b, off, e, hlt, hc, hd⟩ := h.at_ j hj
  exact ⟨b, off, e, Nat.lt_of_lt_of_le hlt hb.size, (hb.cell (p := ⟨b, off + j * 2, none⟩) hlt).trans hc, (hb.cell (p := ⟨b, off + j * 2 + 1, none⟩) hlt).trans hd⟩

theorem FramesAt.take {w : World} {a : Option Addr} {len cap : Nat} {bs : List Fr} (h : FramesAt w a len cap bs) {n : Nat} (hn : n ≤ len) : FramesAt w a n cap (bs.take n) := by
  refine ⟨by rw [List.length_take, h.hlen]; omega, Nat.le_trans hn h.hle, h.hcap, fun j hj => ?_⟩
  obtain ⟨b, off, e, hlt, hc, hd⟩ := h.at_ j (by omega)
  have e1 : (bs.take n).getD j Fr.zero = bs.getD j Fr.zero := by simp [List.getD, hj]
  rw [e1]
  exact ⟨b, off, e, hlt, hc, hd⟩

theorem FramesAt.drop {w : World} {a : Option Addr} {len cap : Nat} {bs : List Fr} (h : FramesAt w a len cap bs) {n : Nat} (hn : n ≤ len) : FramesAt w (if cap = n then a else a.map (·.add (n * 2))) (len - n) (cap - n) (bs.drop n) := by
  refine ⟨by rw [List.length_drop, h.hlen], by have := h.hle; omega, by have := h.hcap; omega, fun j hj => ?_⟩
  obtain ⟨b, off, e, hlt, hc, hd⟩ := h.at_ (n + j) (by omega)
  have hne : cap ≠ n := by have := h.hle; omega
  have e0 : ((⟨b, off, none⟩ : Addr).add (n * 2)) = ⟨b, off + n * 2, none⟩ := by unfold Addr.add; split <;> simp_all
  have e2 : (bs.drop n).getD j Fr.zero = bs.getD (n + j) Fr.zero := by simp [List.getD, List.getElem?_drop]
  refine ⟨b, off + n * 2, ?_, hlt, ?_, ?_⟩
  · rw [if_neg hne, e]
    simp only [Option.map_some, e0]
  · have e1 : off + n * 2 + j * 2 = off + (n + j) * 2 := by omega
    rw [e1, hc, e2]
  · have e1 : off + n * 2 + j * 2 + 1 = off + (n + j) * 2 + 1 := by omega
    rw [e1, hd, e2]

/-- Bytes as cells. -/
def bc (bs : List UInt8) : List Value := bs.map fun b => Value.int .u8 b.toNat
theorem bc_length (bs : List UInt8) : (bc bs).length = bs.length := by simp [bc]
theorem bc_str (s : ByteArray) : Lib.strCells s = bc s.data.toList := rfl
/-- Frames as cells. -/
def fc : List Fr → List Value
  | [] => []
  | f :: r => .int .i64 f.k :: .string f.s :: fc r
theorem fc_append (l r : List Fr) : fc (l ++ r) = fc l ++ fc r := by
  induction l with
  | nil => rfl
  | cons f l ih => simp [fc, ih]
theorem fc_length (l : List Fr) : (fc l).length = l.length * 2 := by
  induction l with
  | nil => rfl
  | cons f l ih => simp [fc, ih]; omega
theorem fc_get (l : List Fr) (j : Nat) (h : j < l.length) : (fc l)[j * 2]? = some (.int .i64 (l.getD j Fr.zero).k) ∧ (fc l)[j * 2 + 1]? = some (.string (l.getD j Fr.zero).s) := by
  induction l generalizing j with
  | nil => simp at h
  | cons f l ih =>
    cases j with
    | zero => simp [fc]
    | succ j =>
      have := ih j (by simpa using h)
      have e1 : (j + 1) * 2 = j * 2 + 1 + 1 := by omega
      rw [e1]
      simpa [fc] using this

theorem owns_bytes {w : World} {base n : Nat} {v : Value} {bs : List UInt8} (h : w.ownsRow base 5 1 v n (bc bs)) : ∃ a cap, v = .slice a n cap ∧ BytesAt w a n cap bs := by
  have h0 := h
  obtain ⟨hl, hcase⟩ := h
  rw [bc_length, Nat.mul_one] at hl
  rcases hcase with ⟨rfl, rfl⟩ | ⟨g, cap, cur, rfl, _, hg, hn, hcap, _, _⟩
  · refine ⟨_, _, rfl, ?_⟩
    have : bs = [] := List.eq_nil_of_length_eq_zero hl
    subst this
    exact BytesAt.nil _ _ _ (Nat.zero_le _)
  · refine ⟨_, _, rfl, hl, hn, hcap, fun j hj => ⟨g, 0, rfl, (Array.getElem?_eq_some_iff.1 hg).1, ?_⟩⟩
    have := h0.cells (g := g) rfl j (.int .u8 (bs.getD j 0).toNat) (by
      have : j < bs.length := by omega
      simp [bc, List.getD, this])
    have e0 : ((⟨g, 0, none⟩ : Addr).add j) = ⟨g, 0 + j, none⟩ := by unfold Addr.add; split <;> simp_all
    rw [e0] at this
    exact this

theorem owns_frames {w : World} {base n : Nat} {v : Value} {fs : List Fr} (h : w.ownsRow base 48 2 v n (fc fs)) : ∃ a cap, v = .slice a n cap ∧ FramesAt w a n cap fs := by
  have h0 := h
  obtain ⟨hl, hcase⟩ := h
  rw [fc_length] at hl
  have hl' : fs.length = n := by omega
  rcases hcase with ⟨rfl, rfl⟩ | ⟨g, cap, cur, rfl, _, hg, hn, hcap, _, _⟩
  · exact ⟨_, _, rfl, hl', Nat.le_refl _, Nat.zero_le _, fun j hj => absurd hj (Nat.not_lt_zero _)⟩
  · refine ⟨_, _, rfl, hl', hn, hcap, fun j hj => ⟨g, 0, rfl, (Array.getElem?_eq_some_iff.1 hg).1, ?_, ?_⟩⟩
    · have := h0.cells (g := g) rfl (j * 2) _ (fc_get fs j (by omega)).1
      have e0 : ((⟨g, 0, none⟩ : Addr).add (j * 2)) = ⟨g, 0 + j * 2, none⟩ := by unfold Addr.add; split <;> simp_all
      rw [e0] at this
      exact this
    · have := h0.cells (g := g) rfl (j * 2 + 1) _ (fc_get fs j (by omega)).2
      have e0 : ((⟨g, 0, none⟩ : Addr).add (j * 2 + 1)) = ⟨g, 0 + j * 2 + 1, none⟩ := by unfold Addr.add; split <;> simp_all
      rw [e0] at this
      exact this

end Go.Proofs.Ytbpflpngaipckaa
