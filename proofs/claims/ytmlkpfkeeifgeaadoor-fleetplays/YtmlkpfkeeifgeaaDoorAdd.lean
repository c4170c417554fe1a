/-
  What Ask and Begin do, also of nil. Conditions: drains lie where they are said to lie, no name stands twice, a name is no longer than the greatest length; of Begin, at most 4000 are under way.
-/
import Derived.Test.YtmlkpfkeeifgeaaDoorWait
namespace Go.Proofs.YtmlkpfkeeifgeaaDoor
open Go.ChangeShapes Go.WideShapes Go.ChangeAt Go.RowKit

/-- What a row wants so that one more drain is put behind it, and what comes of it. -/
theorem DIn.push {w : World} {A : Nat → Prop} {g r : Nat} {L M : List Dr} (hr : r = 0 ∨ r = 1) (h : DIn w A g r L M) :
    ∃ (B : Nat → Prop) (a : Option Addr) (c : Nat) (l : List Dr), w.cell? ⟨g, r, none⟩ = some (.slice a L.length c) ∧ RIn w B a c l ∧ L.length ≤ c ∧ l.take L.length = L ∧ (∀ k, B k → k < w.heap.size) ∧
      ∀ (w0 w3 : World) (a' : Option Addr) (c' : Nat) (l' : List Dr) (p : Dr), Below w.heap.size w w0 → RIn w3 B a' c' l' → L.length + 1 ≤ c' → l'.take (L.length + 1) = L ++ [p] → Keep B w0 w3 →
        w3.cell? ⟨g, r, none⟩ = some (.slice a L.length c) ∧ w3.frozen? ⟨g, r, none⟩ = false ∧ DIn (w3.setCell ⟨g, r, none⟩ (.slice a' (L.length + 1) c')) A g r (L ++ [p]) M ∧ Keep A w (w3.setCell ⟨g, r, none⟩ (.slice a' (L.length + 1) c')) := by
  have hlt := h.lt
  obtain ⟨a, c, l, a', c', l', h1, h2, h3, h4, h5, h6, h7⟩ := h.ex
  have hB : ∀ k, (A k ∨ k = g ∨ bk a' k) → k < w.heap.size := by
    rintro k (hk | rfl | ⟨x, hx, rfl⟩)
    · exact h.guard k hk
    · exact hlt
    · rcases h5.2.2 with ⟨e, _⟩ | ⟨b, e, _, hg⟩
      · rw [e] at hx; cases hx
      · rw [e] at hx; cases hx; exact lt_of_heap hg
  refine ⟨fun k => A k ∨ k = g ∨ bk a' k, a, c, l, (two_cells hr h1).1, h2, h3, h4, hB, ?_⟩
  intro w0 w3 a2 c2 l2 p hb y1 y2 y3 y4
  have hg3 : w3.heap[g]? = some (.cells (two r (.slice a L.length c) (.slice a' M.length c')) 102 (0, 0)) := (y4.block g (Nat.lt_of_lt_of_le hlt hb.size) (.inr (.inl rfl))).trans ((hb.block g hlt).trans h1)
  have hc := two_cells hr hg3
  have hl1 : (L ++ [p]).length = L.length + 1 := by simp
  refine ⟨hc.1, hc.2.2.2 r, ?_, ?_⟩
  · have ho : RIn w3 (fun k => A k ∨ k = g ∨ bk a2 k) a' c' l' := by
      obtain ⟨p1, p2, p3 | ⟨b, rfl, hn, hbx⟩⟩ := h5
      · exact ⟨p1, p2, .inl p3⟩
      · have hbl := lt_of_heap hbx
        refine ⟨p1, p2, .inr ⟨b, rfl, fun e => ?_, (y4.block b (Nat.lt_of_lt_of_le hbl hb.size) (.inr (.inr ⟨_, rfl, rfl⟩))).trans ((hb.block b hbl).trans hbx)⟩⟩
        rcases e with e | e | ⟨z, hz, hzb⟩
        · exact hn (.inl e)
        · exact hn (.inr (.inl e))
        · rcases y1.2.2 with ⟨e, _⟩ | ⟨b2, e, hb2, _⟩
          · rw [e] at hz; cases hz
          · rw [e] at hz
            cases hz
            exact hb2 (.inr (.inr ⟨_, rfl, hzb.symm⟩))
    have := DIn.set (A := A) (L := L ++ [p]) hr hg3 y1 (by rw [hl1]; exact y2) (by rw [hl1]; exact y3) ho h6 h7 h.gout (fun k hk => Nat.lt_of_lt_of_le (h.guard k hk) (Nat.le_trans hb.size y4.size))
    rw [hl1] at this
    exact this
  · exact (((keep_below hb).trans (y4.mono fun k _ hk => .inl hk))).setCell h.gout _

/-- What Ask tells. -/
def askE (x : ByteArray) (L M : List Dr) : Int := if nameB x = false then 11 else if (isIn x L || isIn x M) = true then 6 else if 16 ≤ L.length then 7 else 0
/-- Who waits then. -/
def askL (x : ByteArray) (L M : List Dr) : List Dr := if nameB x = false then L else if (isIn x L || isIn x M) = true then L else if 16 ≤ L.length then L else L ++ [(x, 0)]

theorem ask_nil (x : ByteArray) (w : World) : Calls Tryd.prog 61 #[.pointer none, .string x] w fun e w' => e = .returned (.int .i64 1) ∧ w' = w := by
  go_enter Tryd.func61, Tryd.ntmps61
  go_wp2
  go_ret
  exact ⟨rfl, rfl⟩

theorem ask_name (w : World) (g : Nat) (x : ByteArray) (hs : x.size ≤ maxLen) (h0 : nameB x = false) :
    Calls Tryd.prog 61 #[.pointer (some ⟨g, 0, none⟩), .string x] w fun e w' => e = .returned (.int .i64 11) ∧ w' = w := by
  have hn := name_any x hs w
  rw [h0] at hn
  go_enter Tryd.func61, Tryd.ntmps61
  go_wp2_with (first | (go_at_call 80; refine hn.mono ?_; rintro e w' ⟨rfl, hw'⟩; subst w'))
  go_ret
  exact ⟨rfl, rfl⟩

theorem ask_there (w : World) (A : Nat → Prop) (g : Nat) (L M : List Dr) (x : ByteArray) (h : DIn w A g 0 L M) (hs : x.size ≤ maxLen) (h0 : nameB x = true) (h1 : (isIn x L || isIn x M) = true) :
    Calls Tryd.prog 61 #[.pointer (some ⟨g, 0, none⟩), .string x] w fun e w' => e = .returned (.int .i64 6) ∧ Below w.heap.size w w' := by
  have hn := name_any x hs w
  rw [h0] at hn
  have hf := find_w w A g L M x h
  have hr : (rowI x L M != 2) = true := by
    cases h2 : isIn x L with
    | true => rw [(row_0 h2).1]; rfl
    | false => rw [(row_1 h2 (by rw [h2] at h1; simpa using h1)).1]; rfl
  generalize rowI x L M = r at *
  generalize plcI x L M = p at *
  clear h h1
  go_enter Tryd.func61, Tryd.ntmps61
  go_wp2_with (first
    | (go_at_call 80; refine hn.mono ?_; rintro e w' ⟨rfl, hw'⟩; subst w')
    | (go_at_call 88; refine hf.mono ?_; rintro e w1 ⟨rfl, hb1⟩))
  go_ret
  exact ⟨rfl, hb1⟩

theorem ask_full (w : World) (A : Nat → Prop) (g : Nat) (L M : List Dr) (x : ByteArray) (h : DIn w A g 0 L M) (hs : x.size ≤ maxLen) (h0 : nameB x = true) (h1 : (isIn x L || isIn x M) = false) (h2 : 16 ≤ L.length) :
    Calls Tryd.prog 61 #[.pointer (some ⟨g, 0, none⟩), .string x] w fun e w' => e = .returned (.int .i64 7) ∧ Below w.heap.size w w' := by
  have hn := name_any x hs w
  rw [h0] at hn
  have hf := find_w w A g L M x h
  rw [Bool.or_eq_false_iff] at h1
  rw [(row_2 h1.1 h1.2).1] at hf
  obtain ⟨a, c, hc, hle, hcm, -⟩ := h.row (.inl rfl)
  have hgl := h.lt
  unfold maxLen at hcm
  have hge : (16 : Int) ≤ (L.length : Int) := by omega
  generalize L.length = n at *
  generalize plcI x L M = p at *
  clear h h1
  go_enter Tryd.func61, Tryd.ntmps61
  go_wp2_with (first
    | (go_at_call 80; refine hn.mono ?_; rintro e w' ⟨rfl, hw'⟩; subst w')
    | (go_at_call 88; refine hf.mono ?_; rintro e w1 ⟨rfl, hb1⟩; have hc1 := (hb1.cell (p := ⟨g, 0, none⟩) hgl).trans hc))
  go_ret
  exact ⟨rfl, hb1⟩

set_option maxHeartbeats 1000000 in
set_option maxRecDepth 100000 in
theorem ask_ok (w : World) (A : Nat → Prop) (g : Nat) (L M : List Dr) (x : ByteArray) (h : DIn w A g 0 L M) (hs : x.size ≤ maxLen) (h0 : nameB x = true) (h1 : (isIn x L || isIn x M) = false) (h2 : L.length < 16) :
    Calls Tryd.prog 61 #[.pointer (some ⟨g, 0, none⟩), .string x] w fun e w' => e = .returned (.int .i64 0) ∧ DIn w' A g 0 (L ++ [(x, 0)]) M ∧ Keep A w w' := by
  have hn := name_any x hs w
  rw [h0] at hn
  have hf := find_w w A g L M x h
  rw [Bool.or_eq_false_iff] at h1
  rw [(row_2 h1.1 h1.2).1] at hf
  have H : Hid (DIn w A g 0 L M) := h
  have hgl := h.lt
  generalize plcI x L M = p at *
  clear h h1
  go_enter Tryd.func61, Tryd.ntmps61
  go_wp2_with (first
    | (go_at_call 80; refine hn.mono ?_; rintro e w' ⟨rfl, hw'⟩; subst w')
    | (go_at_call 88; refine hf.mono ?_; rintro e w1 ⟨rfl, hb1⟩; obtain ⟨B, a, c, l, hc, hra, q1, q2, hBk, HP⟩ := DIn.push (.inl rfl) (H.out.same hb1); have hlt : ((L.length : Int) < 16) := by omega))
  have hb0 : Below w1.heap.size w1 ((w1.alloc (.cells #[.string x, .int .i64 0] 118)).drew) := below_drewN ((Below.refl _ w1).alloc (Nat.le_refl _) _) 1
  have hra0 : RIn ((w1.alloc (.cells #[.string x, .int .i64 0] 118)).drew) B a c l := hra.move (fun b y hA hy => ⟨hb0.block b (lt_of_heap hy), hA⟩)
  have u0 : ((w1.alloc (.cells #[.string x, .int .i64 0] 118)).drew).cell? ⟨w1.heap.size, 0, none⟩ = some (.string x) := (blk2 (heap_alloc_new w1 (.cells #[.string x, .int .i64 0] 118))).1
  have u1 : ((w1.alloc (.cells #[.string x, .int .i64 0] 118)).drew).cell? ((⟨w1.heap.size, 0, none⟩ : Addr).add 1) = some (.int .i64 0) := (blk2 (heap_alloc_new w1 (.cells #[.string x, .int .i64 0] 118))).2.1
  have hca : (w1.alloc (.cells #[.string x, .int .i64 0] 118)).cell? ⟨g, 0, none⟩ = some (.slice a L.length c) := (((Below.refl _ w1).alloc (Nat.le_refl _) _).cell (p := ⟨g, 0, none⟩) (Nat.lt_of_lt_of_le hgl hb1.size)).trans hc
  have hBs : ∀ k, B k → k < ((w1.alloc (.cells #[.string x, .int .i64 0] 118)).drew).heap.size := fun k hk => Nat.lt_of_lt_of_le (hBk k hk) hb0.size
  have HK := Hid.mk' (fun a' c' l' w3 => HP _ w3 a' c' l' (x, 0) hb0)
  have hlen : L.length ≤ 5000 := by omega
  have HB1 := Hid.mk' (keep_below (A := A) hb1)
  clear HP hra hBk hb0 hb1 hn hf H hgl hlt
  generalize hn : L.length = n at *
  go_region_law (first
    | ((refine step_one rfl _ _ rfl B a n c l L (x, 0) ⟨w1.heap.size, 0, none⟩ 1 rfl rfl hra0 hn q1 q2 hlen u0 u1 hBs ?_; intro a' c' l' w3 y1 y2 y3 y4; have hkk := HK.out a' c' l' w3 y1 y2 y3 y4; have d3 := hkk.1; have f3 := hkk.2.1)))
  all_goals (
    go_wp2
    go_ret
    exact ⟨rfl, hkk.2.2.1, HB1.out.trans hkk.2.2.2⟩)

end Go.Proofs.YtmlkpfkeeifgeaaDoor
