/-
  What holds of the two rows of drains: no name stands twice; a row without a name; and what takeOut, waitNoMore and End do to them. Conditions: drains lie where they are said to lie.
-/
import Derived.Test.YtmlkpfkeeifgeaaDoorFind
import Derived.Test.YtmlkpfkeeifgeaaDoorTake
namespace Go.Proofs.YtmlkpfkeeifgeaaDoor
open Go.ChangeShapes Go.WideShapes Go.ChangeAt Go.RowKit

/-- A row without a name. -/
def wo (x : ByteArray) (L : List Dr) : List Dr := L.filter (fun p => !decide (p.1 = x))
theorem wo_len (x : ByteArray) (L : List Dr) : (wo x L).length ≤ L.length := List.length_filter_le _ _
theorem wo_not {x : ByteArray} {L : List Dr} (h : x ∉ nms L) : wo x L = L := by
  unfold wo
  rw [List.filter_eq_self]
  intro p hp
  have : p.1 ≠ x := fun e => h (e ▸ List.mem_map_of_mem hp)
  simpa using this
theorem nms_wo (x : ByteArray) (L : List Dr) : nms (wo x L) = (nms L).filter (fun y => !decide (y = x)) := by
  unfold nms wo
  rw [List.filter_map]
  rfl
theorem wo_erase {x : ByteArray} : ∀ {L : List Dr}, (nms L).Nodup → x ∈ nms L → L.eraseIdx (fidx x (nms L)) = wo x L
  | [], _, h => by simp [nms] at h
  | p :: L, hn, h => by
    have hc := List.nodup_cons.1 (show (p.1 :: nms L).Nodup from hn)
    by_cases hp : p.1 = x
    · have h1 : fidx x (nms (p :: L)) = 0 := by show (if p.1 = x then 0 else fidx x (nms L) + 1) = 0; rw [if_pos hp]
      rw [h1]
      have h2 := wo_not (x := x) (L := L) (by rw [← hp]; exact hc.1)
      show L = wo x (p :: L)
      have h3 : wo x (p :: L) = wo x L := by unfold wo; rw [List.filter_cons]; simp [hp]
      rw [h3, h2]
    · have h1 : fidx x (nms (p :: L)) = fidx x (nms L) + 1 := by show (if p.1 = x then 0 else fidx x (nms L) + 1) = _; rw [if_neg hp]
      have hx : x ∈ nms L := by
        rcases List.mem_cons.1 (show x ∈ p.1 :: nms L from h) with e | e
        · exact absurd e.symm hp
        · exact e
      rw [h1]
      show p :: L.eraseIdx (fidx x (nms L)) = wo x (p :: L)
      rw [wo_erase hc.2 hx]
      unfold wo
      rw [List.filter_cons]
      simp [hp]

/-- No name stands twice; at most 16 wait. -/
structure Inv (L M : List Dr) : Prop where
  n1 : (nms L).Nodup
  n2 : (nms M).Nodup
  apart : ∀ x, x ∈ nms L → x ∉ nms M
  few : L.length ≤ 16
theorem Inv.nil : Inv [] [] := ⟨List.nodup_nil, List.nodup_nil, fun _ h => absurd h List.not_mem_nil, by simp⟩
theorem nms_append (L M : List Dr) : nms (L ++ M) = nms L ++ nms M := List.map_append
theorem mem_wo {x y : ByteArray} {L : List Dr} : y ∈ nms (wo x L) ↔ y ∈ nms L ∧ y ≠ x := by
  rw [nms_wo, List.mem_filter]
  simp
theorem nodup_wo {x : ByteArray} {L : List Dr} (h : (nms L).Nodup) : (nms (wo x L)).Nodup := by
  rw [nms_wo]
  exact List.Pairwise.sublist List.filter_sublist h
theorem Inv.ask {L M : List Dr} {x : ByteArray} {d : Int} (h : Inv L M) (h1 : x ∉ nms L) (h2 : x ∉ nms M) (h3 : L.length < 16) : Inv (L ++ [(x, d)]) M := by
  refine ⟨?_, h.n2, fun y hy => ?_, by simp; omega⟩
  · rw [nms_append]
    exact nodup_snoc.2 ⟨h.n1, h1⟩
  · rw [nms_append] at hy
    rcases List.mem_append.1 hy with e | e
    · exact h.apart y e
    · have : y = x := by simpa [nms] using e
      rw [this]
      exact h2
theorem Inv.wait {L M : List Dr} {x : ByteArray} (h : Inv L M) : Inv (wo x L) M :=
  ⟨nodup_wo h.n1, h.n2, fun y hy => h.apart y (mem_wo.1 hy).1, Nat.le_trans (wo_len _ _) h.few⟩
theorem Inv.over {L M : List Dr} {x : ByteArray} (h : Inv L M) : Inv L (wo x M) :=
  ⟨h.n1, nodup_wo h.n2, fun y hy hn => h.apart y hy (mem_wo.1 hn).1, h.few⟩
theorem Inv.begin {L M : List Dr} {x : ByteArray} {d : Int} (h : Inv L M) (h2 : x ∉ nms M) : Inv (wo x L) (M ++ [(x, d)]) := by
  refine ⟨nodup_wo h.n1, ?_, fun y hy hn => ?_, Nat.le_trans (wo_len _ _) h.few⟩
  · rw [nms_append]
    exact nodup_snoc.2 ⟨h.n2, h2⟩
  · rw [nms_append] at hn
    rcases List.mem_append.1 hn with e | e
    · exact h.apart y (mem_wo.1 hy).1 e
    · have : y = x := by simpa [nms] using e
      exact (mem_wo.1 hy).2 this

theorem row_0 {x : ByteArray} {L M : List Dr} (h : isIn x L = true) : rowI x L M = 0 ∧ plcI x L M = fidx x (nms L) := by unfold rowI plcI; rw [if_pos h, if_pos h]; exact ⟨rfl, rfl⟩
theorem row_1 {x : ByteArray} {L M : List Dr} (h : isIn x L = false) (h' : isIn x M = true) : rowI x L M = 1 ∧ plcI x L M = fidx x (nms M) := by unfold rowI plcI; rw [h, h']; exact ⟨rfl, rfl⟩
theorem row_2 {x : ByteArray} {L M : List Dr} (h : isIn x L = false) (h' : isIn x M = false) : rowI x L M = 2 ∧ plcI x L M = -1 := by unfold rowI plcI; rw [h, h']; exact ⟨rfl, rfl⟩
theorem Inv.in1 {x : ByteArray} {L M : List Dr} (h : Inv L M) (h' : isIn x M = true) : isIn x L = false := isIn_not.2 fun hl => h.apart x hl (isIn_iff.1 h')
theorem isIn_lt {x : ByteArray} {L : List Dr} (h : isIn x L = true) : fidx x (nms L) < L.length := by unfold isIn at h; exact of_decide_eq_true h

/-- Row r is written anew. -/
theorem DIn.set {w : World} {A : Nat → Prop} {g r : Nat} {x : Value} {a a' : Option Addr} {c c' : Nat} {l l' L M : List Dr} (hr : r = 0 ∨ r = 1) (hb : w.heap[g]? = some (.cells (two r x (.slice a' M.length c')) 102 (0, 0)))
    (h1 : RIn w (fun k => A k ∨ k = g ∨ bk a' k) a c l) (h2 : L.length ≤ c) (h3 : l.take L.length = L) (h4 : RIn w (fun k => A k ∨ k = g ∨ bk a k) a' c' l') (h5 : M.length ≤ c') (h6 : l'.take M.length = M)
    (hA : ¬ A g) (hg : ∀ k, A k → k < w.heap.size) : DIn (w.setCell ⟨g, r, none⟩ (.slice a L.length c)) A g r L M :=
  ⟨⟨a, c, l, a', c', l', two_set hr hb, h1.move (fun b _ hn _ => ⟨heap_setCell_other _ _ b _ (fun e => hn (.inr (.inl e))), hn⟩), h2, h3, h4.move (fun b _ hn _ => ⟨heap_setCell_other _ _ b _ (fun e => hn (.inr (.inl e))), hn⟩), h5, h6⟩, hA, fun k hk => by rw [World.size_setCell]; exact hg k hk⟩

theorem takeOut_r (w : World) (A : Nat → Prop) (g r i : Nat) (L M : List Dr) (hr : r = 0 ∨ r = 1) (h : DIn w A g r L M) (hi : i < L.length) :
    Calls Tryd.prog 91 #[.pointer (some ⟨g, 0, none⟩), .int .i64 r, .int .i64 i] w fun e w' => e = .returned (.tuple #[]) ∧ DIn w' A g r (L.eraseIdx i) M ∧ Keep A w w' := by
  obtain ⟨a, c, l, a', c', l', h1, ⟨r1, r2, r3⟩, h3, h4, h5, h6, h7⟩ := h.ex
  rcases r3 with ⟨_, r3⟩ | ⟨b, rfl, hbn, hg⟩
  · omega
  have hgb : g ≠ b := fun e => hbn (.inr (.inl e.symm))
  refine (takeOut_cells w g r b i L.length c _ l L hr h1 hgb hg r1 h4 h3 hi r2).mono fun e w' ⟨he, w3, l3, hw, hg3, hl3, ht3, hk3⟩ => ⟨he, ?_, ?_⟩
  · have hl := eraseIdx_len hi
    rw [hw, ← hl]
    refine DIn.set hr ((hk3.block g (lt_of_heap h1) hgb).trans h1) ⟨hl3, r2, .inr ⟨b, rfl, hbn, hg3⟩⟩ (by omega) (by rw [hl]; exact ht3) (h5.move fun b' _ hn hb' => ?_) h6 h7 h.gout (fun k hk => Nat.lt_of_lt_of_le (h.guard k hk) hk3.size)
    exact ⟨hk3.block b' (lt_of_heap hb') (fun e => hn (.inr (.inr ⟨_, rfl, e.symm⟩))), hn⟩
  · rw [hw]
    exact ((hk3.mono fun k _ hk (e : k = b) => hbn (.inl (e ▸ hk)))).setCell h.gout _

theorem takeOut_0 (w : World) (A : Nat → Prop) (g i : Nat) (L M : List Dr) (h : DIn w A g 0 L M) (hi : i < L.length) :
    Calls Tryd.prog 91 #[.pointer (some ⟨g, 0, none⟩), .int .i64 0, .int .i64 i] w fun e w' => e = .returned (.tuple #[]) ∧ DIn w' A g 0 (L.eraseIdx i) M ∧ Keep A w w' := by
  have := takeOut_r w A g 0 i L M (.inl rfl) h hi
  rwa [show ((0 : Nat) : Int) = 0 from rfl] at this
theorem takeOut_1 (w : World) (A : Nat → Prop) (g i : Nat) (L M : List Dr) (h : DIn w A g 0 L M) (hi : i < M.length) :
    Calls Tryd.prog 91 #[.pointer (some ⟨g, 0, none⟩), .int .i64 1, .int .i64 i] w fun e w' => e = .returned (.tuple #[]) ∧ DIn w' A g 0 L (M.eraseIdx i) ∧ Keep A w w' := by
  have := takeOut_r w A g 1 i M L (.inr rfl) h.swap0 hi
  rw [show ((1 : Nat) : Int) = 1 from rfl] at this
  exact this.mono fun e w' ⟨he, hd, hk⟩ => ⟨he, hd.swap1, hk⟩

end Go.Proofs.YtmlkpfkeeifgeaaDoor
