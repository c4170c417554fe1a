/-
  Several texts in one: RfP, RfO, RfQ.
-/
import Derived.Test.YtmlkpfkeeifgeaaDoorM4
import Derived.Laws.OwnMore
import Derived.Deep.RegionLaw
import Derived.Deep.AppendLies
namespace Go.Proofs.YtmlkpfkeeifgeaaDoor
open Go.ChangeShapes Go.WideShapes Go.ChangeAt Go.RowKit Go.Joins Go.Deep

def putH (H : List Hs) (i : Nat) (u : Int) (v : Bool) : List Hs := H.set i ⟨(atH H i).nm, u, v⟩
theorem putH_length (H : List Hs) (i : Nat) (u : Int) (v : Bool) : (putH H i u v).length = H.length := by simp [putH]
theorem hn_putH {H : List Hs} {i : Nat} (h : i < H.length) (u : Int) (v : Bool) : hn (putH H i u v) = hn H := by
  rw [← hn_setV h v]
  simp [putH, setV, hn, List.map_set]
theorem hz_putH (H : List Hs) (i : Nat) (u : Int) (v : Bool) : hz (putH H i u v) = (hz H).set i u := by simp [putH, hz, List.map_set]
theorem hl_putH (H : List Hs) (i : Nat) (u : Int) (v : Bool) : hl (putH H i u v) = (hl H).set i v := by simp [putH, hl, List.map_set]
theorem hl_length (H : List Hs) : (hl H).length = H.length := List.length_map _
theorem hl_getD (H : List Hs) (i : Nat) : (hl H).getD i false = (atH H i).lv := by
  by_cases h : i < H.length
  · simp [hl, atH, List.getD, h]
  · simp [hl, atH, List.getD, h, z0]

def bc (bs : List Bool) : List Value := bs.map Value.bool
theorem bc_length (bs : List Bool) : (bc bs).length = bs.length := by simp [bc]
theorem bc_append (l r : List Bool) : bc (l ++ r) = bc l ++ bc r := by simp [bc]
theorem bc_one (l : List Bool) : ∀ u ∈ bc l, u.oneCell' = true := by
  intro u hu
  obtain ⟨x, _, rfl⟩ := List.mem_map.1 hu
  rfl
theorem info4 : (Tryd.prog.info? 4).map (fun i => (i.zero, i.size, i.bytes)) = some (some (.bool false), 1, 1) := by kernel_rfl

section
variable {w w' : World} {v : Value} {bs : List Bool} {A : Nat → Prop}
theorem FlagsAt.keepB {a : Option Addr} {len cap : Nat} (h : FlagsAt w a len cap bs) (hk : Keep A w w') (hA : ∀ x, a = some x → A x.block) : FlagsAt w' a len cap bs := by
  refine ⟨h.hlen, h.hle, h.hcap, fun j hj => ?_⟩
  obtain ⟨b, off, e, hlt, hc⟩ := h.at_ j hj
  exact ⟨b, off, e, Nat.lt_of_lt_of_le hlt hk.size, hk.cell (a := ⟨b, off + j, none⟩) hc (hA ⟨b, off, none⟩ e)⟩
theorem FlagsAt.news {x : Addr} {len cap : Nat} (h : FlagsAt w (some x) len cap bs) : ∀ j u, (bc bs)[j]? = some u → w.cell? (x.add j) = some u := by
  intro j u hu
  have hj : j < bs.length := by
    have := (List.getElem?_eq_some_iff.1 hu).1
    simpa [bc_length] using this
  obtain ⟨b, off, e, _, hc⟩ := h.at_ j (by have := h.hlen; omega)
  cases e
  have e0 : ((⟨b, off, none⟩ : Addr).add j) = ⟨b, off + j, none⟩ := by unfold Addr.add; split <;> simp_all
  rw [e0, hc]
  simp [bc, List.getD, hj] at hu ⊢
  exact hu
theorem owns_flags {base n : Nat} (h : w.ownsRow base 4 1 v n (bc bs)) : ∃ a cap, v = .slice a n cap ∧ FlagsAt w a n cap bs ∧ (a = none → n = 0 ∧ cap = 0) := by
  have h0 := h
  obtain ⟨hl, hcase⟩ := h
  rw [bc_length, Nat.mul_one] at hl
  rcases hcase with ⟨rfl, rfl⟩ | ⟨g, cap, cur, rfl, hb, hg, hn, hcap, _, _⟩
  · exact ⟨_, _, rfl, ⟨hl, Nat.le_refl _, Nat.zero_le _, fun j hj => absurd hj (Nat.not_lt_zero _)⟩, fun _ => ⟨rfl, rfl⟩⟩
  · refine ⟨_, _, rfl, ⟨hl, hn, hcap, fun j hj => ⟨g, 0, rfl, (Array.getElem?_eq_some_iff.1 hg).1, ?_⟩⟩, fun h => by cases h⟩
    have := h0.cells (g := g) rfl j (.bool (bs.getD j false)) (by
      have : j < bs.length := by omega
      simp [bc, List.getD, this])
    have e0 : ((⟨g, 0, none⟩ : Addr).add j) = ⟨g, 0 + j, none⟩ := by unfold Addr.add; split <;> simp_all
    rw [e0] at this
    exact this
end

/-- Flags are appended. -/
theorem wpList_flags (w : World) {ops : Array Oper} {rest : List Oper} {o : Oper} {a : Act} {Q : Exit → Act → World → Prop} (hgd : o.guard = none) (s x : Operand)
    (ho : o.op = .call { callee := .builtin .append, args := #[s, x], argTypes := #[29, 29] }) (base : Nat) (v : Value) (n : Nat) (xs ys zs : List Bool) (hs : a.eval s = v) (hown : w.ownsRow base 4 1 v n (bc xs)) (ao : Option Addr) (m c : Nat)
    (hx : a.eval x = .slice ao m c) (hB : FlagsAt w ao m c ys) (hnone : ao = none → m = 0 ∧ c = 0) (hnm : n + m ≤ 5000) (hbase : base ≤ w.heap.size) (hz : xs ++ ys = zs) (N : Nat) (hN : N = n + m)
    (h : ∀ v' w', w'.ownsRow base 4 1 v' N (bc zs) → w.grownBy w' v.ownBlock → wpList Tryd.prog ops Q rest (a.put o.dst v') w') : wpList Tryd.prog ops Q (o :: rest) a w := by
  obtain ⟨i, hi, hz0, hz1, hz2⟩ := info_parts info4
  subst hz hN
  cases ao with
  | none =>
    obtain ⟨rfl, rfl⟩ := hnone rfl
    obtain rfl : ys = [] := List.eq_nil_of_length_eq_zero hB.hlen
    exact wpList_append_own_none hgd s x 29 ho base 4 i 1 Tryd.underlying29 hi v n _ hs hown hx (h v w (by simpa using hown) (World.grownBy.refl _ _))
  | some ad =>
    refine wpList_append_own w hgd s x 29 ho base 4 i (.bool false) 1 1 Tryd.underlying29 hi hz0 hz1 hz2 rfl (by decide) v n _ hs hown ad m c (bc ys) hx (by rw [bc_length, hB.hlen, Nat.mul_one]) hB.news (bc_one _) (by unfold maxLen; omega) (by omega) hbase ?_
    intro v' w' h1 h2 _
    exact h v' w' (by rw [bc_append]; exact h1) h2
/-- What lies at place k of a row of ints, of flags of one's own. -/
theorem own_ia {w : World} {base n cap : Nat} {a : Option Addr} {l : List Int} (h : w.ownsRow base 3 1 (.slice a n cap) n (ic l)) {k : Nat} (hk : k < n) :
    ∃ g, a = some ⟨g, 0, none⟩ ∧ base ≤ g ∧ g < w.heap.size ∧ w.cell? ⟨g, k, none⟩ = some (.int .i64 (l.getD k 0)) ∧ ∀ o, w.frozen? ⟨g, o, none⟩ = false := by
  obtain ⟨a', c', e, hh, -⟩ := owns_ints h
  cases e
  rcases h.2 with ⟨e2, h0⟩ | ⟨g, cap', cur, e2, hb, hg, _⟩
  · omega
  · cases e2
    obtain ⟨b, off, e3, hlt, hx⟩ := hh.at_ k hk
    cases e3
    rw [Nat.zero_add] at hx
    exact ⟨g, rfl, hb, hlt, hx, fun o => h.frozenAt o⟩
theorem own_ba {w : World} {base n cap : Nat} {a : Option Addr} {l : List Bool} (h : w.ownsRow base 4 1 (.slice a n cap) n (bc l)) {k : Nat} (hk : k < n) :
    ∃ g, a = some ⟨g, 0, none⟩ ∧ base ≤ g ∧ g < w.heap.size ∧ w.cell? ⟨g, k, none⟩ = some (.bool (l.getD k false)) ∧ ∀ o, w.frozen? ⟨g, o, none⟩ = false := by
  obtain ⟨a', c', e, hh, -⟩ := owns_flags h
  cases e
  rcases h.2 with ⟨e2, h0⟩ | ⟨g, cap', cur, e2, hb, hg, _⟩
  · omega
  · cases e2
    obtain ⟨b, off, e3, hlt, hx⟩ := hh.at_ k hk
    cases e3
    rw [Nat.zero_add] at hx
    exact ⟨g, rfl, hb, hlt, hx, fun o => h.frozenAt o⟩
theorem own_iset {w : World} {base g cap n : Nat} {l : List Int} (h : w.ownsRow base 3 1 (.slice (some ⟨g, 0, none⟩) n cap) n (ic l)) (k : Nat) (u : Int) :
    (w.setCell ⟨g, k, none⟩ (.int .i64 u)).ownsRow base 3 1 (.slice (some ⟨g, 0, none⟩) n cap) n (ic (l.set k u)) ∧ w.grownBy (w.setCell ⟨g, k, none⟩ (.int .i64 u)) (some g) := by
  have := h.stored k (.int .i64 u)
  simpa [ic, List.map_set] using this
theorem own_bset {w : World} {base g cap n : Nat} {l : List Bool} (h : w.ownsRow base 4 1 (.slice (some ⟨g, 0, none⟩) n cap) n (bc l)) (k : Nat) (u : Bool) :
    (w.setCell ⟨g, k, none⟩ (.bool u)).ownsRow base 4 1 (.slice (some ⟨g, 0, none⟩) n cap) n (bc (l.set k u)) ∧ w.grownBy (w.setCell ⟨g, k, none⟩ (.bool u)) (some g) := by
  have := h.stored k (.bool u)
  simpa [bc, List.map_set] using this
theorem put2 {w : World} {g : Nat} {a b c d e f x y : Value} {t : TypeId} (h : w.heap[g]? = some (.cells #[a, b, c, d, e, f, x, y] t (0, 0))) (p q : Value) :
    ((w.setCell ⟨g, 3, none⟩ p).setCell ⟨g, 4, none⟩ q).heap[g]? = some (.cells #[a, b, c, p, q, f, x, y] t (0, 0)) := by
  have h1 := heap_setCell_same w g 3 _ t p h
  have h2 := heap_setCell_same _ g 4 _ t q h1
  rw [h2]
  simp
theorem put2_rest (w : World) (B g : Nat) (hB : B ≤ g) (p q : Value) : Below B w ((w.setCell ⟨g, 3, none⟩ p).setCell ⟨g, 4, none⟩ q) ∧ ∀ k, k ≠ g → ((w.setCell ⟨g, 3, none⟩ p).setCell ⟨g, 4, none⟩ q).heap[k]? = w.heap[k]? := by
  have h1 : Below B w (w.setCell ⟨g, 3, none⟩ p) := (Below.refl B w).setCell (p := ⟨g, 3, none⟩) hB p
  have h2 := h1.setCell (p := ⟨g, 4, none⟩) hB q
  refine ⟨h2, fun k hk => ?_⟩
  exact (Below.heap_setCell _ ⟨g, 4, none⟩ q k hk).trans (Below.heap_setCell _ ⟨g, 3, none⟩ p k hk)
theorem RL6.keep {w w' : World} {A K : Nat → Prop} {a b c x y z : Sl} {s : Fl} (h : RL6 w A a b c x y z s) (hk : Keep K w w') (hA : ∀ k, A k → K k) : RL6 w' A a b c x y z s := by
  refine ⟨h.nm.keepB hk fun q hq => hA _ (h.bl _ (.inl (⟨q, hq, rfl⟩))), h.st.keepB hk fun q hq => hA _ (h.bl _ (.inr (.inl (⟨q, hq, rfl⟩)))), h.lv.keepB hk fun q hq => hA _ (h.bl _ (.inr (.inr (⟨q, hq, rfl⟩)))), h.dr.keep hk fun k hk' => hA _ (h.bd _ ?_), h.bl, h.bd⟩
  exact hk'.imp own_bk.1 (Or.imp own_bk.1 own_bk.1)
theorem RL6.mono {w : World} {A B : Nat → Prop} {a b c x y z : Sl} {s : Fl} (h : RL6 w A a b c x y z s) (hA : ∀ k, A k → B k) : RL6 w B a b c x y z s := h.below (Below.refl _ _) hA
/-- Behind a store of eight cells into a block that is none of its own. -/
theorem RL6.fin {w : World} {A : Nat → Prop} {a b c x y z : Sl} {s : Fl} (h : RL6 w A a b c x y z s) (g : Nat) (hA : ∀ k, A k → k ≠ g) (p0 p1 p2 p3 p4 p5 p6 p7 : Value) : RL6 ((((((((w.setCell ⟨g, 0, none⟩ p0).setCell ⟨g, 1, none⟩ p1).setCell ⟨g, 2, none⟩ p2).setCell ⟨g, 3, none⟩ p3).setCell ⟨g, 4, none⟩ p4).setCell ⟨g, 5, none⟩ p5).setCell ⟨g, 6, none⟩ p6).setCell ⟨g, 7, none⟩ p7) A a b c x y z s := by
  have h8 := put8_rest w 0 g (Nat.zero_le _) p0 p1 p2 p3 p4 p5 p6 p7
  exact h.keep (K := fun k => k ≠ g) ⟨h8.1.os, h8.1.tape, h8.1.output, h8.1.size, fun k _ hk => h8.2 k hk⟩ hA
end Go.Proofs.YtmlkpfkeeifgeaaDoor
namespace Go.Proofs.YtmlkpfkeeifgeaaDoor
open Go.ChangeShapes Go.WideShapes Go.ChangeAt Go.RowKit Go.Joins Go.Deep

def rmH (H : List Hs) (i : Int) : List Hs := if 0 ≤ i then H.eraseIdx i.toNat else H
theorem rmH_yes (H : List Hs) (i : Nat) : rmH H (i : Int) = H.eraseIdx i := by unfold rmH; rw [if_pos (by omega)]; simp
theorem rmH_neg (H : List Hs) {i : Int} (h : i < 0) : rmH H i = H := by unfold rmH; rw [if_neg (by omega)]
theorem rmH_len (H : List Hs) (i : Int) : (rmH H i).length ≤ H.length := by
  unfold rmH
  split
  · exact List.length_eraseIdx_le ..
  · exact Nat.le_refl _
theorem rmH_miss {H : List Hs} {k : Nat} {i : Int} (hk : k < H.length) (h : ¬ (k : Int) = i) : rmH (H.take (k + 1)) i = rmH (H.take k) i ++ [atH H k] := by
  have hl : (H.take k).length = k := by simp; omega
  unfold rmH
  rw [takeH_snoc hk]
  split
  · rcases Nat.lt_or_ge i.toNat k with h1 | h1
    · rw [List.eraseIdx_append_of_lt_length (by omega)]
    · rw [List.eraseIdx_of_length_le (l := H.take k ++ [atH H k]) (by simp; omega), List.eraseIdx_of_length_le (l := H.take k) (by omega)]
  · rfl
theorem rmH_hit {H : List Hs} {k : Nat} {i : Int} (hk : k < H.length) (h : (k : Int) = i) : rmH (H.take (k + 1)) i = rmH (H.take k) i := by
  have hl : (H.take k).length = k := by simp; omega
  subst h
  rw [rmH_yes, rmH_yes, takeH_snoc hk, List.eraseIdx_append_of_length_le (by omega), List.eraseIdx_of_length_le (l := H.take k) (by omega)]
  simp [hl]
theorem hn_snoc (H : List Hs) (h : Hs) : hn (H ++ [h]) = hn H ++ [h.nm] := by simp [hn]
theorem hz_snoc (H : List Hs) (h : Hs) : hz (H ++ [h]) = hz H ++ [h.st] := by simp [hz]
theorem hl_snoc (H : List Hs) (h : Hs) : hl (H ++ [h]) = hl H ++ [h.lv] := by simp [hl]
theorem ic_snoc (l : List Int) (x : Int) : ic (l ++ [x]) = ic l ++ [.int .i64 x] := by simp [ic]
theorem bc_snoc (l : List Bool) (x : Bool) : bc (l ++ [x]) = bc l ++ [.bool x] := by simp [bc]

/-- A fleet of the document's in a block, with rows of its own that grow. -/
structure OF (w : World) (B b : Nat) (e gd : Int) (k1 k2 k3 xv yv zv : Value) (n1 n2 n3 : Nat) (l1 l2 l3 : List Value) : Prop where
  blk : w.heap[b]? = some (.cells #[.int .i64 e, .int .i64 gd, k1, k2, k3, xv, yv, zv] 33 (0, 0))
  o1 : w.ownsRow B 9 1 k1 n1 l1
  o2 : w.ownsRow B 3 1 k2 n2 l2
  o3 : w.ownsRow B 4 1 k3 n3 l3
  a12 : ∀ k, k1.ownBlock = some k → k2.ownBlock ≠ some k
  a13 : ∀ k, k1.ownBlock = some k → k3.ownBlock ≠ some k
  a23 : ∀ k, k2.ownBlock = some k → k3.ownBlock ≠ some k
  ab : ∀ k, (k1.ownBlock = some k ∨ k2.ownBlock = some k ∨ k3.ownBlock = some k) → k ≠ b

section
variable {w w' wa w3 : World} {B b : Nat} {e gd : Int} {k1 k2 k3 xv yv zv v' u : Value} {n1 n2 n3 : Nat} {l1 l2 l3 xs : List Value}
theorem OF.lt (h : OF w B b e gd k1 k2 k3 xv yv zv n1 n2 n3 l1 l2 l3) : b < w.heap.size := (Array.getElem?_eq_some_iff.1 h.blk).1
theorem OF.keep {A : Nat → Prop} (h : OF w B b e gd k1 k2 k3 xv yv zv n1 n2 n3 l1 l2 l3) (hk : Keep A w w') (hb : A b) (hA : ∀ k, B ≤ k → A k) : OF w' B b e gd k1 k2 k3 xv yv zv n1 n2 n3 l1 l2 l3 :=
  ⟨by rw [hk.block b h.lt hb]; exact h.blk, owns_keep h.o1 hk (fun k q => hA k (h.o1.lt k q).1), owns_keep h.o2 hk (fun k q => hA k (h.o2.lt k q).1), owns_keep h.o3 hk (fun k q => hA k (h.o3.lt k q).1), h.a12, h.a13, h.a23, h.ab⟩
theorem OF.bel (h : OF w B b e gd k1 k2 k3 xv yv zv n1 n2 n3 l1 l2 l3) (hb : Below w.heap.size w w') : OF w' B b e gd k1 k2 k3 xv yv zv n1 n2 n3 l1 l2 l3 := h.keep (A := fun _ => True) (keep_below hb) trivial (fun _ _ => trivial)
theorem OF.cell1 (h : OF w B b e gd k1 k2 k3 xv yv zv n1 n2 n3 l1 l2 l3) : w.cell? ⟨b, 2, none⟩ = some k1 := by
  obtain ⟨x0, x1, x2, x3, x4, x5, x6, x7⟩ := blk8 h.blk
  exact x2
theorem OF.blkm1 (h : OF w B b e gd k1 k2 k3 xv yv zv n1 n2 n3 l1 l2 l3) (hk : Keep (fun _ => True) w wa) (hgr : wa.grownBy w3 k1.ownBlock) : w3.heap[b]? = some (.cells #[.int .i64 e, .int .i64 gd, k1, k2, k3, xv, yv, zv] 33 (0, 0)) := by
  rw [(keep_grown (A := fun k => k1.ownBlock ≠ some k) hgr (fun k e hn => hn e)).block b (Nat.lt_of_lt_of_le h.lt hk.size) (fun q => h.ab b (.inl q) rfl), hk.block b h.lt trivial]
  exact h.blk
theorem OF.mid1 (h : OF w B b e gd k1 k2 k3 xv yv zv n1 n2 n3 l1 l2 l3) (hk : Keep (fun _ => True) w wa) (hgr : wa.grownBy w3 k1.ownBlock) : w3.cell? ⟨b, 2, none⟩ = some k1 ∧ w3.frozen? ⟨b, 2, none⟩ = false := by
  have h0 := h.blkm1 hk hgr
  obtain ⟨x0, x1, x2, x3, x4, x5, x6, x7⟩ := blk8 h0
  exact ⟨x2, fz8 h0 2⟩
theorem OF.push1 (h : OF w B b e gd k1 k2 k3 xv yv zv n1 n2 n3 l1 l2 l3) (hk : Keep (fun _ => True) w wa) (hgr : wa.grownBy w3 k1.ownBlock) (hown : w3.ownsRow B 9 1 v' (n1 + 1) (l1 ++ [u])) (hat : v'.ownBlock = k1.ownBlock ∨ v'.ownBlock = some wa.heap.size) :
    OF (w3.setCell ⟨b, 2, none⟩ v') B b e gd v' k2 k3 xv yv zv (n1 + 1) n2 n3 (l1 ++ [u]) l2 l3 ∧ Keep (fun k => k < B ∧ k ≠ b) w (w3.setCell ⟨b, 2, none⟩ v') := by
  have hl := h.lt
  have hs := hk.size
  have hlo : ∀ k, k1.ownBlock = some k → B ≤ k := fun k q => (h.o1.lt k q).1
  have g1 : Keep (fun k => k1.ownBlock ≠ some k) wa w3 := keep_grown hgr (fun k e hn => hn e)
  have hb3 := h.blkm1 hk hgr
  have hp : ∀ k, v'.ownBlock = some k → k1.ownBlock = some k ∨ k = wa.heap.size := fun k q => by
    rcases hat with h1 | h1
    · exact .inl (h1 ▸ q)
    · rw [h1] at q
      cases q
      exact .inr rfl
  have p2 : w3.ownsRow B 3 1 k2 n2 l2 := owns_keep (owns_keep h.o2 hk (fun _ _ => trivial)) g1 (fun k q q2 => h.a12 k q2 q)
  have p3 : w3.ownsRow B 4 1 k3 n3 l3 := owns_keep (owns_keep h.o3 hk (fun _ _ => trivial)) g1 (fun k q q2 => h.a13 k q2 q)
  have ks3 : Keep (fun k => k ≠ b) w3 (w3.setCell ⟨b, 2, none⟩ v') := (Keep.refl _ w3).setCell (fun hn => hn rfl) _
  have hnb : ∀ k, v'.ownBlock = some k → k ≠ b := fun k q => by
    rcases hp k q with h1 | h1
    · exact h.ab k (.inl h1)
    · omega
  have q2 := owns_keep p2 ks3 (fun k q => h.ab k (.inr (.inl q)))
  have q3 := owns_keep p3 ks3 (fun k q => h.ab k (.inr (.inr q)))
  have q1 := owns_keep hown ks3 hnb
  have hd2 : ∀ k, v'.ownBlock = some k → k2.ownBlock ≠ some k := fun k q q2 => by
    rcases hp k q with h1 | h1
    · exact h.a12 k h1 q2
    · have := (h.o2.lt k q2).2
      omega
  have hd3 : ∀ k, v'.ownBlock = some k → k3.ownBlock ≠ some k := fun k q q2 => by
    rcases hp k q with h1 | h1
    · exact h.a13 k h1 q2
    · have := (h.o3.lt k q2).2
      omega
  have hb4 : (w3.setCell ⟨b, 2, none⟩ v').heap[b]? = some (.cells #[.int .i64 e, .int .i64 gd, v', k2, k3, xv, yv, zv] 33 (0, 0)) := by
    rw [heap_setCell_same w3 b 2 _ 33 v' hb3]
    simp
  refine ⟨⟨hb4, q1, q2, q3, hd2, hd3, h.a23, fun k hk => ?_⟩, ((hk.mono fun _ _ _ => trivial).trans (g1.mono fun k _ hk e => by have := hlo k e; have := hk.1; omega)).setCell (fun hn => hn.2 rfl) _⟩
  rcases hk with hk | hk | hk
  · exact hnb k hk
  · exact h.ab k (.inr (.inl hk))
  · exact h.ab k (.inr (.inr hk))
theorem OF.cell2 (h : OF w B b e gd k1 k2 k3 xv yv zv n1 n2 n3 l1 l2 l3) : w.cell? ⟨b, 3, none⟩ = some k2 := by
  obtain ⟨x0, x1, x2, x3, x4, x5, x6, x7⟩ := blk8 h.blk
  exact x3
theorem OF.blkm2 (h : OF w B b e gd k1 k2 k3 xv yv zv n1 n2 n3 l1 l2 l3) (hk : Keep (fun _ => True) w wa) (hgr : wa.grownBy w3 k2.ownBlock) : w3.heap[b]? = some (.cells #[.int .i64 e, .int .i64 gd, k1, k2, k3, xv, yv, zv] 33 (0, 0)) := by
  rw [(keep_grown (A := fun k => k2.ownBlock ≠ some k) hgr (fun k e hn => hn e)).block b (Nat.lt_of_lt_of_le h.lt hk.size) (fun q => h.ab b (.inr (.inl q)) rfl), hk.block b h.lt trivial]
  exact h.blk
theorem OF.mid2 (h : OF w B b e gd k1 k2 k3 xv yv zv n1 n2 n3 l1 l2 l3) (hk : Keep (fun _ => True) w wa) (hgr : wa.grownBy w3 k2.ownBlock) : w3.cell? ⟨b, 3, none⟩ = some k2 ∧ w3.frozen? ⟨b, 3, none⟩ = false := by
  have h0 := h.blkm2 hk hgr
  obtain ⟨x0, x1, x2, x3, x4, x5, x6, x7⟩ := blk8 h0
  exact ⟨x3, fz8 h0 3⟩
theorem OF.push2 (h : OF w B b e gd k1 k2 k3 xv yv zv n1 n2 n3 l1 l2 l3) (hk : Keep (fun _ => True) w wa) (hgr : wa.grownBy w3 k2.ownBlock) (hown : w3.ownsRow B 3 1 v' (n2 + 1) (l2 ++ [u])) (hat : v'.ownBlock = k2.ownBlock ∨ v'.ownBlock = some wa.heap.size) :
    OF (w3.setCell ⟨b, 3, none⟩ v') B b e gd k1 v' k3 xv yv zv n1 (n2 + 1) n3 l1 (l2 ++ [u]) l3 ∧ Keep (fun k => k < B ∧ k ≠ b) w (w3.setCell ⟨b, 3, none⟩ v') := by
  have hl := h.lt
  have hs := hk.size
  have hlo : ∀ k, k2.ownBlock = some k → B ≤ k := fun k q => (h.o2.lt k q).1
  have g1 : Keep (fun k => k2.ownBlock ≠ some k) wa w3 := keep_grown hgr (fun k e hn => hn e)
  have hb3 := h.blkm2 hk hgr
  have hp : ∀ k, v'.ownBlock = some k → k2.ownBlock = some k ∨ k = wa.heap.size := fun k q => by
    rcases hat with h1 | h1
    · exact .inl (h1 ▸ q)
    · rw [h1] at q
      cases q
      exact .inr rfl
  have p1 : w3.ownsRow B 9 1 k1 n1 l1 := owns_keep (owns_keep h.o1 hk (fun _ _ => trivial)) g1 (fun k q q2 => h.a12 k q q2)
  have p3 : w3.ownsRow B 4 1 k3 n3 l3 := owns_keep (owns_keep h.o3 hk (fun _ _ => trivial)) g1 (fun k q q2 => h.a23 k q2 q)
  have ks3 : Keep (fun k => k ≠ b) w3 (w3.setCell ⟨b, 3, none⟩ v') := (Keep.refl _ w3).setCell (fun hn => hn rfl) _
  have hnb : ∀ k, v'.ownBlock = some k → k ≠ b := fun k q => by
    rcases hp k q with h1 | h1
    · exact h.ab k (.inr (.inl h1))
    · omega
  have q1 := owns_keep p1 ks3 (fun k q => h.ab k (.inl q))
  have q3 := owns_keep p3 ks3 (fun k q => h.ab k (.inr (.inr q)))
  have q2 := owns_keep hown ks3 hnb
  have hd1 : ∀ k, v'.ownBlock = some k → k1.ownBlock ≠ some k := fun k q q2 => by
    rcases hp k q with h1 | h1
    · exact h.a12 k q2 h1
    · have := (h.o1.lt k q2).2
      omega
  have hd3 : ∀ k, v'.ownBlock = some k → k3.ownBlock ≠ some k := fun k q q2 => by
    rcases hp k q with h1 | h1
    · exact h.a23 k h1 q2
    · have := (h.o3.lt k q2).2
      omega
  have hb4 : (w3.setCell ⟨b, 3, none⟩ v').heap[b]? = some (.cells #[.int .i64 e, .int .i64 gd, k1, v', k3, xv, yv, zv] 33 (0, 0)) := by
    rw [heap_setCell_same w3 b 3 _ 33 v' hb3]
    simp
  refine ⟨⟨hb4, q1, q2, q3, fun k e1 e2 => hd1 k e2 e1, h.a13, hd3, fun k hk => ?_⟩, ((hk.mono fun _ _ _ => trivial).trans (g1.mono fun k _ hk e => by have := hlo k e; have := hk.1; omega)).setCell (fun hn => hn.2 rfl) _⟩
  rcases hk with hk | hk | hk
  · exact h.ab k (.inl hk)
  · exact hnb k hk
  · exact h.ab k (.inr (.inr hk))
theorem OF.cell3 (h : OF w B b e gd k1 k2 k3 xv yv zv n1 n2 n3 l1 l2 l3) : w.cell? ⟨b, 4, none⟩ = some k3 := by
  obtain ⟨x0, x1, x2, x3, x4, x5, x6, x7⟩ := blk8 h.blk
  exact x4
theorem OF.blkm3 (h : OF w B b e gd k1 k2 k3 xv yv zv n1 n2 n3 l1 l2 l3) (hk : Keep (fun _ => True) w wa) (hgr : wa.grownBy w3 k3.ownBlock) : w3.heap[b]? = some (.cells #[.int .i64 e, .int .i64 gd, k1, k2, k3, xv, yv, zv] 33 (0, 0)) := by
  rw [(keep_grown (A := fun k => k3.ownBlock ≠ some k) hgr (fun k e hn => hn e)).block b (Nat.lt_of_lt_of_le h.lt hk.size) (fun q => h.ab b (.inr (.inr q)) rfl), hk.block b h.lt trivial]
  exact h.blk
theorem OF.mid3 (h : OF w B b e gd k1 k2 k3 xv yv zv n1 n2 n3 l1 l2 l3) (hk : Keep (fun _ => True) w wa) (hgr : wa.grownBy w3 k3.ownBlock) : w3.cell? ⟨b, 4, none⟩ = some k3 ∧ w3.frozen? ⟨b, 4, none⟩ = false := by
  have h0 := h.blkm3 hk hgr
  obtain ⟨x0, x1, x2, x3, x4, x5, x6, x7⟩ := blk8 h0
  exact ⟨x4, fz8 h0 4⟩
theorem OF.push3 (h : OF w B b e gd k1 k2 k3 xv yv zv n1 n2 n3 l1 l2 l3) (hk : Keep (fun _ => True) w wa) (hgr : wa.grownBy w3 k3.ownBlock) (hown : w3.ownsRow B 4 1 v' (n3 + 1) (l3 ++ [u])) (hat : v'.ownBlock = k3.ownBlock ∨ v'.ownBlock = some wa.heap.size) :
    OF (w3.setCell ⟨b, 4, none⟩ v') B b e gd k1 k2 v' xv yv zv n1 n2 (n3 + 1) l1 l2 (l3 ++ [u]) ∧ Keep (fun k => k < B ∧ k ≠ b) w (w3.setCell ⟨b, 4, none⟩ v') := by
  have hl := h.lt
  have hs := hk.size
  have hlo : ∀ k, k3.ownBlock = some k → B ≤ k := fun k q => (h.o3.lt k q).1
  have g1 : Keep (fun k => k3.ownBlock ≠ some k) wa w3 := keep_grown hgr (fun k e hn => hn e)
  have hb3 := h.blkm3 hk hgr
  have hp : ∀ k, v'.ownBlock = some k → k3.ownBlock = some k ∨ k = wa.heap.size := fun k q => by
    rcases hat with h1 | h1
    · exact .inl (h1 ▸ q)
    · rw [h1] at q
      cases q
      exact .inr rfl
  have p1 : w3.ownsRow B 9 1 k1 n1 l1 := owns_keep (owns_keep h.o1 hk (fun _ _ => trivial)) g1 (fun k q q2 => h.a13 k q q2)
  have p2 : w3.ownsRow B 3 1 k2 n2 l2 := owns_keep (owns_keep h.o2 hk (fun _ _ => trivial)) g1 (fun k q q2 => h.a23 k q q2)
  have ks3 : Keep (fun k => k ≠ b) w3 (w3.setCell ⟨b, 4, none⟩ v') := (Keep.refl _ w3).setCell (fun hn => hn rfl) _
  have hnb : ∀ k, v'.ownBlock = some k → k ≠ b := fun k q => by
    rcases hp k q with h1 | h1
    · exact h.ab k (.inr (.inr h1))
    · omega
  have q1 := owns_keep p1 ks3 (fun k q => h.ab k (.inl q))
  have q2 := owns_keep p2 ks3 (fun k q => h.ab k (.inr (.inl q)))
  have q3 := owns_keep hown ks3 hnb
  have hd1 : ∀ k, v'.ownBlock = some k → k1.ownBlock ≠ some k := fun k q q2 => by
    rcases hp k q with h1 | h1
    · exact h.a13 k q2 h1
    · have := (h.o1.lt k q2).2
      omega
  have hd2 : ∀ k, v'.ownBlock = some k → k2.ownBlock ≠ some k := fun k q q2 => by
    rcases hp k q with h1 | h1
    · exact h.a23 k q2 h1
    · have := (h.o2.lt k q2).2
      omega
  have hb4 : (w3.setCell ⟨b, 4, none⟩ v').heap[b]? = some (.cells #[.int .i64 e, .int .i64 gd, k1, k2, v', xv, yv, zv] 33 (0, 0)) := by
    rw [heap_setCell_same w3 b 4 _ 33 v' hb3]
    simp
  refine ⟨⟨hb4, q1, q2, q3, h.a12, fun k e1 e2 => hd1 k e2 e1, fun k e1 e2 => hd2 k e2 e1, fun k hk => ?_⟩, ((hk.mono fun _ _ _ => trivial).trans (g1.mono fun k _ hk e => by have := hlo k e; have := hk.1; omega)).setCell (fun hn => hn.2 rfl) _⟩
  rcases hk with hk | hk | hk
  · exact h.ab k (.inl hk)
  · exact h.ab k (.inr (.inl hk))
  · exact hnb k hk
end

/-- One is appended, as one step of a region that draws. -/
theorem step_str1 {ops : Array Oper} {o : Oper} {a : Act} {w : World} {K : Act → World → Prop} {Q : Exit → Act → World → Prop} {E : Prop} (hgd : o.guard = none) (s x : Operand)
    (ho : o.op = .call { callee := .builtin .append, args := #[s, x], argTypes := #[27, 27] }) (base : Nat) (v : Value) (n : Nat) (zs : List Value) (z : ByteArray) (hs : a.eval s = v) (w0 : World) (hown : w0.ownsRow base 9 1 v n zs)
    (hx : a.eval x = .slice (some ⟨w0.heap.size, 0, none⟩) 1 1) (hk : Keep (fun _ => True) w0 w) (hblk : w.heap[w0.heap.size]? = some (.cells #[.string z] 9 (0, 0))) (hn : n ≤ 4000) (hb : base ≤ w0.heap.size)
    (h : ∀ g cap w', w'.ownsRow base 9 1 (.slice (some ⟨g, 0, none⟩) (n + 1) cap) (n + 1) (zs ++ [.string z]) → w.grownBy w' v.ownBlock → ((Value.slice (some ⟨g, 0, none⟩) (n + 1) cap).ownBlock = v.ownBlock ∨ (Value.slice (some ⟨g, 0, none⟩) (n + 1) cap).ownBlock = some w.heap.size) → K (a.put o.dst (.slice (some ⟨g, 0, none⟩) (n + 1) cap)) w') :
    if Region.wanted o (yielded ops a.tmps) = true then Oper.wp Tryd.prog o a w K Q else E := by
  obtain ⟨ti, hi, hz0, hz1, hz2⟩ := info_parts info9
  have hsz := hk.size
  refine step_append_lies w hgd s x 27 ho base 9 ti (.string ⟨#[]⟩) 1 16 Tryd.underlying27 hi hz0 hz1 hz2 rfl (by decide) v n zs hs (owns_keep hown hk (fun _ _ => trivial)) ⟨w0.heap.size, 0, none⟩ 1 1 [.string z] hx rfl (World.news_of_block hblk) (by simp [Value.oneCell']) (by decide) (by unfold maxLen; omega) (by omega) (by omega) _ rfl (fun g cap w' q1 q2 q3 _ => h g cap w' q1 q2 ?_)
  rcases q3 with q3 | q3
  · exact .inl (by rw [q3]; rfl)
  · exact .inr (by rw [q3]; rfl)
/-- One is appended, as one step of a region that draws. -/
theorem step_int1 {ops : Array Oper} {o : Oper} {a : Act} {w : World} {K : Act → World → Prop} {Q : Exit → Act → World → Prop} {E : Prop} (hgd : o.guard = none) (s x : Operand)
    (ho : o.op = .call { callee := .builtin .append, args := #[s, x], argTypes := #[28, 28] }) (base : Nat) (v : Value) (n : Nat) (zs : List Value) (z : Int) (hs : a.eval s = v) (w0 : World) (hown : w0.ownsRow base 3 1 v n zs)
    (hx : a.eval x = .slice (some ⟨w0.heap.size, 0, none⟩) 1 1) (hk : Keep (fun _ => True) w0 w) (hblk : w.heap[w0.heap.size]? = some (.cells #[.int .i64 z] 3 (0, 0))) (hn : n ≤ 4000) (hb : base ≤ w0.heap.size)
    (h : ∀ g cap w', w'.ownsRow base 3 1 (.slice (some ⟨g, 0, none⟩) (n + 1) cap) (n + 1) (zs ++ [.int .i64 z]) → w.grownBy w' v.ownBlock → ((Value.slice (some ⟨g, 0, none⟩) (n + 1) cap).ownBlock = v.ownBlock ∨ (Value.slice (some ⟨g, 0, none⟩) (n + 1) cap).ownBlock = some w.heap.size) → K (a.put o.dst (.slice (some ⟨g, 0, none⟩) (n + 1) cap)) w') :
    if Region.wanted o (yielded ops a.tmps) = true then Oper.wp Tryd.prog o a w K Q else E := by
  obtain ⟨ti, hi, hz0, hz1, hz2⟩ := info_parts info3
  have hsz := hk.size
  refine step_append_lies w hgd s x 28 ho base 3 ti (.int .i64 0) 1 8 Tryd.underlying28 hi hz0 hz1 hz2 rfl (by decide) v n zs hs (owns_keep hown hk (fun _ _ => trivial)) ⟨w0.heap.size, 0, none⟩ 1 1 [.int .i64 z] hx rfl (World.news_of_block hblk) (by simp [Value.oneCell']) (by decide) (by unfold maxLen; omega) (by omega) (by omega) _ rfl (fun g cap w' q1 q2 q3 _ => h g cap w' q1 q2 ?_)
  rcases q3 with q3 | q3
  · exact .inl (by rw [q3]; rfl)
  · exact .inr (by rw [q3]; rfl)
/-- One is appended, as one step of a region that draws. -/
theorem step_flag1 {ops : Array Oper} {o : Oper} {a : Act} {w : World} {K : Act → World → Prop} {Q : Exit → Act → World → Prop} {E : Prop} (hgd : o.guard = none) (s x : Operand)
    (ho : o.op = .call { callee := .builtin .append, args := #[s, x], argTypes := #[29, 29] }) (base : Nat) (v : Value) (n : Nat) (zs : List Value) (z : Bool) (hs : a.eval s = v) (w0 : World) (hown : w0.ownsRow base 4 1 v n zs)
    (hx : a.eval x = .slice (some ⟨w0.heap.size, 0, none⟩) 1 1) (hk : Keep (fun _ => True) w0 w) (hblk : w.heap[w0.heap.size]? = some (.cells #[.bool z] 4 (0, 0))) (hn : n ≤ 4000) (hb : base ≤ w0.heap.size)
    (h : ∀ g cap w', w'.ownsRow base 4 1 (.slice (some ⟨g, 0, none⟩) (n + 1) cap) (n + 1) (zs ++ [.bool z]) → w.grownBy w' v.ownBlock → ((Value.slice (some ⟨g, 0, none⟩) (n + 1) cap).ownBlock = v.ownBlock ∨ (Value.slice (some ⟨g, 0, none⟩) (n + 1) cap).ownBlock = some w.heap.size) → K (a.put o.dst (.slice (some ⟨g, 0, none⟩) (n + 1) cap)) w') :
    if Region.wanted o (yielded ops a.tmps) = true then Oper.wp Tryd.prog o a w K Q else E := by
  obtain ⟨ti, hi, hz0, hz1, hz2⟩ := info_parts info4
  have hsz := hk.size
  refine step_append_lies w hgd s x 29 ho base 4 ti (.bool false) 1 1 Tryd.underlying29 hi hz0 hz1 hz2 rfl (by decide) v n zs hs (owns_keep hown hk (fun _ _ => trivial)) ⟨w0.heap.size, 0, none⟩ 1 1 [.bool z] hx rfl (World.news_of_block hblk) (by simp [Value.oneCell']) (by decide) (by unfold maxLen; omega) (by omega) (by omega) _ rfl (fun g cap w' q1 q2 q3 _ => h g cap w' q1 q2 ?_)
  rcases q3 with q3 | q3
  · exact .inl (by rw [q3]; rfl)
  · exact .inr (by rw [q3]; rfl)
end Go.Proofs.YtmlkpfkeeifgeaaDoor
namespace Go.Proofs.YtmlkpfkeeifgeaaDoor
open Go.ChangeShapes Go.WideShapes Go.ChangeAt Go.RowKit Go.Joins Go.Deep

set_option maxHeartbeats 4000000 in
set_option maxRecDepth 100000 in
theorem rput_f {w : World} {A : Nat → Prop} {e gd : Int} {a b c x y z : Sl} {s : Fl} (h : RL6 w A a b c x y z s) (hG : ∀ k, A k → k < w.heap.size) (i : Nat) (hi : i < s.H.length) (hlen : s.H.length ≤ 4000) (u : Int) (v : Bool) :
    Calls Tryd.prog 71 #[.agg #[.int .i64 e, .int .i64 gd, .slice a.a a.n a.c, .slice b.a b.n b.c, .slice c.a c.n c.c, .slice x.a x.n x.c, .slice y.a y.n y.c, .slice z.a z.n z.c], .int .i64 i, .int .i64 u, .bool v] w fun o w' => ∃ b' c' : Sl, o = .returned (.agg #[.int .i64 e, .int .i64 gd, .slice a.a a.n a.c, .slice b'.a b'.n b'.c, .slice c'.a c'.n c'.c, .slice x.a x.n x.c, .slice y.a y.n y.c, .slice z.a z.n z.c]) ∧ RL6 w' (nw A w w') a b' c' x y z ⟨putH s.H i u v, s.L, s.M⟩ ∧ Below w.heap.size w w' := by
  obtain ⟨w1, hw1⟩ : ∃ w1, w1 = (w.alloc (.cells #[.int .i64 e, .int .i64 gd, .slice a.a a.n a.c, .slice b.a b.n b.c, .slice c.a c.n c.c, .slice x.a x.n x.c, .slice y.a y.n y.c, .slice z.a z.n z.c] 33)).alloc (.cells #[.int .i64 0, .int .i64 0, .slice none 0 0, .slice none 0 0, .slice none 0 0, .slice none 0 0, .slice none 0 0, .slice none 0 0] 33) := ⟨_, rfl⟩
  have hb1 : Below w.heap.size w w1 := by rw [hw1]; exact ((Below.refl _ w).alloc (Nat.le_refl _) _).alloc (by simp) _
  have hsz : w1.heap.size = w.heap.size + 2 := by rw [hw1]; simp
  have hq2 : w1.heap[w.heap.size]? = some (.cells #[.int .i64 e, .int .i64 gd, .slice a.a a.n a.c, .slice b.a b.n b.c, .slice c.a c.n c.c, .slice x.a x.n x.c, .slice y.a y.n y.c, .slice z.a z.n z.c] 33 (0, 0)) := by
    rw [hw1, Below.heap_alloc _ _ _ (by simp)]
    exact heap_alloc_new w _
  have hq4 : w1.heap[w.heap.size + 1]? = some (.cells #[.int .i64 0, .int .i64 0, .slice none 0 0, .slice none 0 0, .slice none 0 0, .slice none 0 0, .slice none 0 0, .slice none 0 0] 33 (0, 0)) := by
    rw [hw1]
    have := heap_alloc_new (w.alloc (.cells #[.int .i64 e, .int .i64 gd, .slice a.a a.n a.c, .slice b.a b.n b.c, .slice c.a c.n c.c, .slice x.a x.n x.c, .slice y.a y.n y.c, .slice z.a z.n z.c] 33)) (.cells #[.int .i64 0, .int .i64 0, .slice none 0 0, .slice none 0 0, .slice none 0 0, .slice none 0 0, .slice none 0 0, .slice none 0 0] 33)
    simpa using this
  have h1 : RL6 w1 A a b c x y z s := h.below hb1 (fun k hk => hk)
  have hbn : b.n = s.H.length := by have := h.st.hlen; rw [hz_length] at this; omega
  have hcn : c.n = s.H.length := by have := h.lv.hlen; rw [hl_length] at this; omega
  have hbs : b.a = none → b.n = 0 ∧ b.c = 0 := fun hn => by
    obtain ⟨q, off, e1, _⟩ := h.st.at_ 0 (by omega)
    rw [hn] at e1
    cases e1
  have hcs : c.a = none → c.n = 0 ∧ c.c = 0 := fun hn => by
    obtain ⟨q, off, e1, _⟩ := h.lv.at_ 0 (by omega)
    rw [hn] at e1
    cases e1
  have hzl := hz_length s.H
  have hll := hl_length s.H
  have o0 : w1.ownsRow w1.heap.size 3 1 (.slice none 0 0) 0 (ic []) := World.ownsRow_nil _ _ _ _
  have hib : i < b.n := by omega
  have hic : i < c.n := by omega
  have hin : (i : Int) < (b.n : Int) := by omega
  have hin2 : (i : Int) < (c.n : Int) := by omega
  have hb4' : b.n ≤ 4000 := by omega
  have hc4' : c.n ≤ 4000 := by omega
  have hst := h1.st
  have HLV := Hid.mk' h1.lv
  have HH := Hid.mk' h
  obtain ⟨c0, c1, c2, c3, c4, c5, c6, c7⟩ := blk8 hq2
  clear h h1 hbn hcn hzl hll
  go_enter Tryd.func71, Tryd.ntmps71
  go_upto_region 1 with fail
  rw [← hw1]
  clear hw1
  go_upto_region 4 with (at_builtin; refine wpList_ints w1 rfl _ _ rfl w1.heap.size (.slice none 0 0) 0 [] (hz s.H) (hz s.H) rfl o0 b.a b.n b.c rfl hst hbs (by omega) (Nat.le_refl _) rfl b.n (by omega) ?_; intro v3 w3 o3 g3; obtain ⟨a3, c3', rfl, -, -⟩ := owns_ints o3)
  have hb3 : Below w1.heap.size w1 w3 := (Below.refl _ w1).grown g3 (Nat.le_refl _) (fun j hj => by cases hj)
  have g2 := (hb3.block w.heap.size (by omega)).trans hq2
  have g4 := (hb3.block (w.heap.size + 1) (by omega)).trans hq4
  have hfl := HLV.out.below hb3
  have hs3 := hb3.size
  have o30 : w3.ownsRow w3.heap.size 4 1 (.slice none 0 0) 0 (bc []) := World.ownsRow_nil _ _ _ _
  clear hst hbs c0 c1 c2 c3 c4 c5 c6 c7 o0 g3
  obtain ⟨c0, c1, c2, c3, c4, c5, c6, c7⟩ := blk8 g2
  go_upto_region 5 with (at_builtin; refine wpList_flags w3 rfl _ _ rfl w3.heap.size (.slice none 0 0) 0 [] (hl s.H) (hl s.H) rfl o30 c.a c.n c.c rfl hfl hcs (by omega) (Nat.le_refl _) rfl c.n (by omega) ?_; intro v4 w4 o4 g4'; obtain ⟨a4, c4', rfl, -, -⟩ := owns_flags o4)
  have hb4 : Below w3.heap.size w3 w4 := (Below.refl _ w3).grown g4' (Nat.le_refl _) (fun j hj => by cases hj)
  have o34 : w4.ownsRow w1.heap.size 3 1 (.slice a3 b.n c3') b.n (ic (hz s.H)) := owns_keep o3 (keep_below (A := fun _ => True) hb4) (fun k _ => trivial)
  obtain ⟨g, rfl, hg0, hgl, xg, fg⟩ := own_ia o34 (k := i) (by omega)
  have fgi := fg i
  obtain ⟨q, rfl, hq0, hql, xq, fq⟩ := own_ba o4 (k := i) (by omega)
  have hs4 := hb4.size
  have hgs : g < w3.heap.size := by
    have := o3.lt g rfl
    omega
  clear hfl hcs c0 c1 c2 c3 c4 c5 c6 c7 o30 g4' fg
  have o5 := (own_iset o34 i u).1
  have hb5 : Below w1.heap.size w4 (w4.setCell ⟨g, i, none⟩ (.int .i64 u)) := (Below.refl _ w4).setCell (p := ⟨g, i, none⟩) hg0 _
  have hr5 : ∀ k, k ≠ g → (w4.setCell ⟨g, i, none⟩ (.int .i64 u)).heap[k]? = w4.heap[k]? := fun k hk => Below.heap_setCell _ ⟨g, i, none⟩ _ k hk
  go_upto_region 6 with fail
  obtain ⟨w5, hw5⟩ : ∃ w5, w5 = w4.setCell ⟨g, i, none⟩ (.int .i64 u) := ⟨_, rfl⟩
  rw [← hw5] at o5 hb5 hr5 ⊢
  have hs5 : w5.heap.size = w4.heap.size := by rw [hw5]; simp
  have hk5 : Keep (fun k => k ≠ g) w4 w5 := ⟨hb5.os, hb5.tape, hb5.output, hb5.size, fun k _ hk => hr5 k hk⟩
  have o45 : w5.ownsRow w3.heap.size 4 1 (.slice (some ⟨q, 0, none⟩) c.n c4') c.n (bc (hl s.H)) := owns_keep o4 hk5 (fun k hk => by cases hk; show q ≠ g; omega)
  have fqi := o45.frozenAt i
  have xq5 := hk5.cell (a := ⟨q, i, none⟩) xq (show q ≠ g by omega)
  clear hw5 xg fgi xq fq o34 o4 o3
  have o6 := (own_bset o45 i v).1
  have hb6 : Below w3.heap.size w5 (w5.setCell ⟨q, i, none⟩ (.bool v)) := (Below.refl _ w5).setCell (p := ⟨q, i, none⟩) hq0 _
  have hr6 : ∀ k, k ≠ q → (w5.setCell ⟨q, i, none⟩ (.bool v)).heap[k]? = w5.heap[k]? := fun k hk => Below.heap_setCell _ ⟨q, i, none⟩ _ k hk
  go_upto_region 7 with fail
  obtain ⟨w6, hw6⟩ : ∃ w6, w6 = w5.setCell ⟨q, i, none⟩ (.bool v) := ⟨_, rfl⟩
  rw [← hw6] at o6 hb6 hr6 ⊢
  have hs6 : w6.heap.size = w5.heap.size := by rw [hw6]; simp
  have hk6 : Keep (fun k => k ≠ q) w5 w6 := ⟨hb6.os, hb6.tape, hb6.output, hb6.size, fun k _ hk => hr6 k hk⟩
  have o56 : w6.ownsRow w1.heap.size 3 1 (.slice (some ⟨g, 0, none⟩) b.n c3') b.n (ic ((hz s.H).set i u)) := owns_keep o5 hk6 (fun k hk => by cases hk; show g ≠ q; omega)
  have g26 := (hr6 w.heap.size (by omega)).trans ((hr5 w.heap.size (by omega)).trans ((hb4.block w.heap.size (by omega)).trans g2))
  have g46 := (hr6 (w.heap.size + 1) (by omega)).trans ((hr5 (w.heap.size + 1) (by omega)).trans ((hb4.block (w.heap.size + 1) (by omega)).trans g4))
  obtain ⟨xa, xc, ex, hI6, -⟩ := owns_ints o56
  cases ex
  obtain ⟨xa, xc, ex, hF6, -⟩ := owns_flags o6
  cases ex
  have hb16 : Below w1.heap.size w1 w6 := (hb3.trans (hb4.mono (by omega))).trans (hb5.trans (hb6.mono (by omega)))
  have h6 : RL6 w6 (fun k => A k ∨ (w.heap.size + 2 ≤ k ∧ k < w6.heap.size)) a ⟨some ⟨g, 0, none⟩, b.n, c3'⟩ ⟨some ⟨q, 0, none⟩, c.n, c4'⟩ x y z ⟨putH s.H i u v, s.L, s.M⟩ := by
    have hh := HH.out
    have hbel := hb1.trans (hb16.mono (by omega))
    refine ⟨?_, ?_, ?_, hh.dr.below hbel, ?_, fun k hk => .inl (hh.bd k hk)⟩
    · show StrsAt w6 a.a a.n a.c (hn (putH s.H i u v))
      rw [hn_putH (by omega)]
      exact hh.nm.below (Nat.le_refl _) hbel
    · show IntsAt w6 (some ⟨g, 0, none⟩) b.n c3' (hz (putH s.H i u v))
      rw [hz_putH]
      exact hI6
    · show FlagsAt w6 (some ⟨q, 0, none⟩) c.n c4' (hl (putH s.H i u v))
      rw [hl_putH]
      exact hF6
    · rintro k (hk | hk | hk)
      · exact .inl (hh.bl k (.inl hk))
      · obtain ⟨q', e1, e2⟩ := hk
        cases e1
        have e3 : (_ : Nat) = k := e2
        simp only at e3
        exact .inr ⟨by omega, by omega⟩
      · obtain ⟨q', e1, e2⟩ := hk
        cases e1
        have e3 : (_ : Nat) = k := e2
        simp only at e3
        exact .inr ⟨by omega, by omega⟩
  have H6 := Hid.mk' h6
  have HB16 := Hid.mk' hb16
  have HB1 := Hid.mk' hb1
  have hs16 := hb16.size
  have g26' := put2 g26 (.slice (some ⟨g, 0, none⟩) b.n c3') (.slice (some ⟨q, 0, none⟩) c.n c4')
  obtain ⟨hb7, hk7⟩ := put2_rest w6 w.heap.size w.heap.size (Nat.le_refl _) (.slice (some ⟨g, 0, none⟩) b.n c3') (.slice (some ⟨q, 0, none⟩) c.n c4')
  obtain ⟨c0, c1, c2, c3, c4, c5, c6, c7⟩ := blk8 g26
  have z3 := fz8 g26 3
  have z4 := fz8 g26 4
  have hsz6 : w.heap.size + 2 ≤ w6.heap.size := by omega
  clear hw6 o6 hb6 hr6 o56 o5 hb5 hr5 hk5 hk6 o45 fqi xq5 g2 g4 hb3 hb4 hI6 hF6 hb16 h6 hb1 hq2 hq4 hs3 hs4 hs5 hs6 hgs hql hq0 hg0 hgl hs16 HLV
  go_upto_region 9 with fail
  obtain ⟨w7, hw7⟩ : ∃ w7, w7 = (w6.setCell ⟨w.heap.size, 3, none⟩ (.slice (some ⟨g, 0, none⟩) b.n c3')).setCell ⟨w.heap.size, 4, none⟩ (.slice (some ⟨q, 0, none⟩) c.n c4') := ⟨_, rfl⟩
  rw [← hw7] at g26' hb7 hk7 ⊢
  have hs7 := hb7.size
  have HK7 : Hid (Keep (fun k => k ≠ w.heap.size) w6 w7) := ⟨hb7.os, hb7.tape, hb7.output, hb7.size, fun k _ hk => hk7 k hk⟩
  have g47 := (hk7 (w.heap.size + 1) (Nat.succ_ne_self _)).trans g46
  clear hw7 hk7 g46 g26 c0 c1 c2 c3 c4 c5 c6 c7 z3 z4
  obtain ⟨c0, c1, c2, c3, c4, c5, c6, c7⟩ := blk8 g26'
  obtain ⟨d0, d1, d2, d3, d4, d5, d6, d7⟩ := blk8 g47
  have f0 := fz8 g47 0
  have f1 := fz8 g47 1
  have f2 := fz8 g47 2
  have f3 := fz8 g47 3
  have f4 := fz8 g47 4
  have f5 := fz8 g47 5
  have f6 := fz8 g47 6
  have f7 := fz8 g47 7
  go_wp2
  have g8 := put8 g47 (.int .i64 e) (.int .i64 gd) (.slice a.a a.n a.c) (.slice (some ⟨g, 0, none⟩) b.n c3') (.slice (some ⟨q, 0, none⟩) c.n c4') (.slice x.a x.n x.c) (.slice y.a y.n y.c) (.slice z.a z.n z.c)
  obtain ⟨hb8, hk8⟩ := put8_rest w7 w.heap.size (w.heap.size + 1) (Nat.le_succ _) (.int .i64 e) (.int .i64 gd) (.slice a.a a.n a.c) (.slice (some ⟨g, 0, none⟩) b.n c3') (.slice (some ⟨q, 0, none⟩) c.n c4') (.slice x.a x.n x.c) (.slice y.a y.n y.c) (.slice z.a z.n z.c)
  have hA7 : ∀ k, (A k ∨ (w.heap.size + 2 ≤ k ∧ k < w6.heap.size)) → k ≠ w.heap.size ∧ k ≠ w.heap.size + 1 := fun k hk => by
    rcases hk with hk | hk
    · have := hG k hk
      omega
    · omega
  have h8 := (H6.out.keep HK7.out (fun k hk => (hA7 k hk).1)).fin (w.heap.size + 1) (fun k hk => (hA7 k hk).2) (.int .i64 e) (.int .i64 gd) (.slice a.a a.n a.c) (.slice (some ⟨g, 0, none⟩) b.n c3') (.slice (some ⟨q, 0, none⟩) c.n c4') (.slice x.a x.n x.c) (.slice y.a y.n y.c) (.slice z.a z.n z.c)
  clear hk8 d0 d1 d2 d3 d4 d5 d6 d7 f0 f1 f2 f3 f4 f5 f6 f7 c0 c1 c2 c3 c4 c5 c6 c7 g47 g26'
  generalize ((((((((w7.setCell _ _).setCell _ _).setCell _ _).setCell _ _).setCell _ _).setCell _ _).setCell _ _).setCell _ _) = w8 at *
  obtain ⟨d0, d1, d2, d3, d4, d5, d6, d7⟩ := blk8 g8
  refine bodyPost_ret (v := .agg #[.int .i64 e, .int .i64 gd, .slice a.a a.n a.c, .slice (some ⟨g, 0, none⟩) b.n c3', .slice (some ⟨q, 0, none⟩) c.n c4', .slice x.a x.n x.c, .slice y.a y.n y.c, .slice z.a z.n z.c]) (by simp [results, Tryd.results71, go_sem, d0, d1, d2, d3, d4, d5, d6, d7]) rfl ?_
  have hs8 := hb8.size
  have hs7' := hb7.size
  exact ⟨⟨some ⟨g, 0, none⟩, b.n, c3'⟩, ⟨some ⟨q, 0, none⟩, c.n, c4'⟩, rfl, h8.mono (fun k hk => hk.imp id (fun hk => ⟨by omega, by omega⟩)), HB1.out.trans ((HB16.out.mono (by omega)).trans (hb7.trans hb8))⟩
end Go.Proofs.YtmlkpfkeeifgeaaDoor
