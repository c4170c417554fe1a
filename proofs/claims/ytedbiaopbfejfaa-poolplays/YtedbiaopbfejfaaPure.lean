/-
  The connections of a pool in plain mathematics: three lists, how each call turns them; what a map of them tells; sorted lists. No conditions.
-/
import Derived.Test.YtedbiaopbfejfaaInts
import Derived.Maps.OwnSet
import Derived.Maps.RangeWalk
namespace Go.Proofs.Ytedbiaopbfejfaa
open Go.ChangeShapes Go.WideShapes Go.ChangeAt Go.RowKit Go.Maps

/-- Those that are being made, idle (the lowest one first), busy. -/
structure St where
  M : List Int
  I : List Int
  B : List Int
def St.ids (s : St) : List Int := s.M ++ s.I ++ s.B
def less (l : List Int) (x : Int) : List Int := l.filter (fun y => y != x)
def St.none : St := ⟨[], [], []⟩
def mkS (s : St) (x : Int) : St := ⟨s.M ++ [x], s.I, s.B⟩
def rdy (s : St) (x : Int) : St := ⟨less s.M x, s.I ++ [x], s.B⟩
def gv (s : St) (x : Int) : St := ⟨s.M, s.I ++ [x], less s.B x⟩
def tk (s : St) (x : Int) : St := ⟨s.M, less s.I x, s.B ++ [x]⟩
def dr (s : St) (x : Int) : St := ⟨less s.M x, less s.I x, less s.B x⟩

theorem mem_ids {s : St} {x : Int} : x ∈ s.ids ↔ x ∈ s.M ∨ x ∈ s.I ∨ x ∈ s.B := by unfold St.ids; simp
theorem mem_less {l : List Int} {x y : Int} : y ∈ less l x ↔ y ∈ l ∧ y ≠ x := by unfold less; simp
theorem less_not {l : List Int} {x : Int} (h : x ∉ l) : less l x = l := by
  unfold less
  rw [List.filter_eq_self]
  intro y hy
  have : y ≠ x := fun e => h (e ▸ hy)
  simpa using this
theorem less_len {l : List Int} {x : Int} (h : l.Nodup) (hx : x ∈ l) : (less l x).length + 1 = l.length := by
  induction l with
  | nil => simp at hx
  | cons y l ih =>
    obtain ⟨h1, h2⟩ := List.nodup_cons.1 h
    by_cases e : y = x
    · subst e
      have : less (y :: l) y = l := by
        unfold less
        rw [List.filter_cons, if_neg (by simp)]
        exact less_not h1
      rw [this]; rfl
    · have hx' : x ∈ l := by
        rcases List.mem_cons.1 hx with rfl | h3
        · exact absurd rfl e
        · exact h3
      have : less (y :: l) x = y :: less l x := by
        unfold less
        rw [List.filter_cons, if_pos (by simpa using e)]
      rw [this, List.length_cons, ih h2 hx', List.length_cons]
theorem less_nodup {l : List Int} (h : l.Nodup) (x : Int) : (less l x).Nodup := List.Pairwise.filter _ h
theorem snoc_nodup {l : List Int} {x : Int} (h : l.Nodup) (hx : x ∉ l) : (l ++ [x]).Nodup := by
  rw [List.nodup_append]
  refine ⟨h, by simp, fun a ha b hb => ?_⟩
  simp at hb
  subst hb
  exact fun e => hx (e ▸ ha)

/-- Sorted. -/
def srt (zs : List Int) : List Int := zs.mergeSort fun x y => decide (x ≤ y)
theorem srt_perm (zs : List Int) : (srt zs).Perm zs := List.mergeSort_perm _ _
theorem srt_length (zs : List Int) : (srt zs).length = zs.length := by simp [srt]
theorem srt_sorted (zs : List Int) : (srt zs).Pairwise (fun x y => decide (x ≤ y) = true) := List.pairwise_mergeSort (fun a b c h1 h2 => by simp at *; omega) (fun a b => by simp; omega) zs
theorem srt_uniq {zs ys : List Int} (hp : ys.Perm zs) (hs : ys.Pairwise (fun x y => decide (x ≤ y) = true)) : srt zs = ys :=
  ((srt_perm zs).trans hp.symm).eq_of_pairwise (fun a b _ _ h1 h2 => by simp at h1 h2; omega) (srt_sorted zs) hs
theorem srt_of_perm {zs ys : List Int} (hp : ys.Perm zs) : srt zs = srt ys := srt_uniq ((srt_perm ys).trans hp) (srt_sorted ys)
theorem srt_less (zs : List Int) (x : Int) : less (srt zs) x = srt (less zs x) := by
  refine (srt_uniq ?_ (List.Pairwise.filter _ (srt_sorted zs))).symm
  exact (srt_perm zs).filter _
theorem mem_srt {zs : List Int} {x : Int} : x ∈ srt zs ↔ x ∈ zs := (srt_perm zs).mem_iff

/-- An int. -/
def Wf (k : Int) : Prop := (Lit.int .i64 k).wf = true
theorem keyed3 : Keyed Try.prog 3 := int_keyed Try.underlying3
theorem keyOf3 {k : Int} (h : Wf k) : keyOf Try.prog 3 (.int .i64 k) = some (.int .i64 k) := keyOf_int_mk Try.underlying3 h

/-- What a connection reads as. -/
def cd (p : Int × Int) : DataW Unit := .agg [.lit (.int .i64 p.1), .lit (.int .i64 p.2)]
def cv (p : Int × Int) : Value := .agg #[.int .i64 p.1, .int .i64 p.2]
def connCells : List Value → Option (DataW Unit × List MemPlace)
  | [.int .i64 a, .int .i64 b] => some (cd (a, b), [])
  | _ => Option.none
def connElem : Value → Option (DataW Unit × List MemPlace)
  | .agg cs => connCells cs.toList
  | _ => Option.none
theorem connElem_mk (p : Int × Int) : connElem (cv p) = some (cd p, []) := rfl
theorem connElem_inv {v : Value} {y : DataW Unit × List MemPlace} (h : connElem v = some y) : ∃ p, v = cv p ∧ y = (cd p, []) := by
  unfold connElem at h
  split at h
  · rename_i cs
    unfold connCells at h
    split at h
    · rename_i a b he
      refine ⟨(a, b), ?_, by simpa using h.symm⟩
      unfold cv
      congr 1
      apply Array.toList_inj.1
      rw [he]
    · simp at h
  · simp at h
theorem cd_inj {p q : Int × Int} (h : cd p = cd q) : p = q := by
  unfold cd at h
  injection h with h
  injection h with h1 h2
  injection h2 with h2 _
  injection h1 with h1
  injection h2 with h2
  injection h1 with _ h1
  injection h2 with _ h2
  exact Prod.ext h1 h2

/-- What each connection is, and how high it lies: cn; no idle one lies above K. -/
structure Inv (s : St) (cn : Int → Int × Int) (K : Nat) : Prop where
  mkg : ∀ x ∈ s.M, cn x = (0, 0)
  idl : ∀ x ∈ s.I, (cn x).1 = 1 ∧ 1 ≤ (cn x).2 ∧ (cn x).2 ≤ K
  bsy : ∀ x ∈ s.B, cn x = (2, 0)
  nM : s.M.Nodup
  nB : s.B.Nodup
  row : s.I.Pairwise (fun x y => (cn x).2 < (cn y).2)
  wf : ∀ x ∈ s.ids, Wf x

theorem Inv.nI {s : St} {cn : Int → Int × Int} {K : Nat} (h : Inv s cn K) : s.I.Nodup := h.row.imp (fun hlt e => by rw [e] at hlt; omega)
theorem Inv.m_out {s : St} {cn : Int → Int × Int} {K : Nat} (h : Inv s cn K) {x : Int} (hx : x ∈ s.M) : x ∉ s.I ∧ x ∉ s.B := by
  have e := h.mkg x hx
  constructor
  · intro h1
    have := (h.idl x h1).1
    rw [e] at this
    simp at this
  · intro h1
    have := h.bsy x h1
    rw [e] at this
    simp at this
theorem Inv.i_out {s : St} {cn : Int → Int × Int} {K : Nat} (h : Inv s cn K) {x : Int} (hx : x ∈ s.I) : x ∉ s.M ∧ x ∉ s.B := by
  refine ⟨fun h1 => (h.m_out h1).1 hx, fun h1 => ?_⟩
  have e := h.bsy x h1
  have := (h.idl x hx).1
  rw [e] at this
  simp at this
theorem Inv.b_out {s : St} {cn : Int → Int × Int} {K : Nat} (h : Inv s cn K) {x : Int} (hx : x ∈ s.B) : x ∉ s.M ∧ x ∉ s.I := ⟨fun h1 => (h.m_out h1).2 hx, fun h1 => (h.i_out h1).2 hx⟩
theorem Inv.nd {s : St} {cn : Int → Int × Int} {K : Nat} (h : Inv s cn K) : s.ids.Nodup := by
  unfold St.ids
  rw [List.nodup_append, List.nodup_append]
  refine ⟨⟨h.nM, h.nI, fun a ha b hb e => (h.m_out ha).1 (e ▸ hb)⟩, h.nB, fun a ha b hb e => ?_⟩
  rcases List.mem_append.1 ha with h1 | h1
  · exact (h.m_out h1).2 (e ▸ hb)
  · exact (h.i_out h1).2 (e ▸ hb)
theorem Inv.what {s : St} {cn : Int → Int × Int} {K : Nat} (h : Inv s cn K) {x : Int} (hx : x ∈ s.ids) : ((cn x).1 = 0 ↔ x ∈ s.M) ∧ ((cn x).1 = 1 ↔ x ∈ s.I) ∧ ((cn x).1 = 2 ↔ x ∈ s.B) := by
  rcases mem_ids.1 hx with h1 | h1 | h1
  · have e := h.mkg x h1
    have := h.m_out h1
    simp [e, h1, this.1, this.2]
  · have e := (h.idl x h1).1
    have := h.i_out h1
    simp [e, h1, this.1, this.2]
  · have e := h.bsy x h1
    have := h.b_out h1
    simp [e, h1, this.1, this.2]

theorem ne_of {l : List Int} {x y : Int} (hy : y ∈ l) (hx : x ∉ l) : y ≠ x := fun e => hx (e ▸ hy)
def upd (cn : Int → Int × Int) (x : Int) (p : Int × Int) : Int → Int × Int := fun y => if y = x then p else cn y
theorem upd_same (cn : Int → Int × Int) (x : Int) (p : Int × Int) : upd cn x p x = p := if_pos rfl
theorem upd_other {cn : Int → Int × Int} {x y : Int} {p : Int × Int} (h : y ≠ x) : upd cn x p y = cn y := if_neg h

theorem row_upd {cn : Int → Int × Int} {x : Int} {p : Int × Int} {l : List Int} (h : l.Pairwise (fun x y => (cn x).2 < (cn y).2)) (hx : x ∉ l) : l.Pairwise (fun a b => (upd cn x p a).2 < (upd cn x p b).2) :=
  h.imp_of_mem (fun {a b} ha hb hlt => by rw [upd_other (ne_of ha hx), upd_other (ne_of hb hx)]; exact hlt)
theorem row_more {cn : Int → Int × Int} {x t : Int} {l : List Int} (h : l.Pairwise (fun x y => (cn x).2 < (cn y).2)) (hx : x ∉ l) (ht : ∀ y ∈ l, (cn y).2 ≤ t) : (l ++ [x]).Pairwise (fun a b => (upd cn x (1, t + 1) a).2 < (upd cn x (1, t + 1) b).2) := by
  rw [List.pairwise_append]
  refine ⟨row_upd h hx, List.pairwise_singleton _ _, fun a ha b hb => ?_⟩
  simp at hb
  subst hb
  rw [upd_same, upd_other (ne_of ha hx)]
  have := ht a ha
  show (cn a).2 < t + 1
  omega

section
variable {s : St} {cn : Int → Int × Int} {K : Nat} {x t : Int}
theorem Inv.none : Inv St.none (fun _ => (0, 0)) 0 := by
  refine ⟨?_, ?_, ?_, List.nodup_nil, List.nodup_nil, List.Pairwise.nil, ?_⟩ <;> intro x hx <;> simp [St.none, St.ids] at hx
theorem Inv.made (h : Inv s cn K) (hx : x ∉ s.ids) (hw : Wf x) : Inv (mkS s x) (upd cn x (0, 0)) K := by
  have hn : x ∉ s.M ∧ x ∉ s.I ∧ x ∉ s.B := by
    refine ⟨fun h1 => hx (mem_ids.2 (.inl h1)), fun h1 => hx (mem_ids.2 (.inr (.inl h1))), fun h1 => hx (mem_ids.2 (.inr (.inr h1)))⟩
  refine ⟨fun y hy => ?_, fun y hy => ?_, fun y hy => ?_, snoc_nodup h.nM hn.1, h.nB, row_upd h.row hn.2.1, fun y hy => ?_⟩
  · by_cases e : y = x
    · rw [e, upd_same]
    · rw [upd_other e]
      rcases List.mem_append.1 hy with h1 | h1
      · exact h.mkg y h1
      · simp at h1; exact absurd h1 e
  · rw [upd_other (ne_of hy hn.2.1)]; exact h.idl y hy
  · rw [upd_other (ne_of hy hn.2.2)]; exact h.bsy y hy
  · rcases mem_ids.1 hy with h1 | h1
    · rcases List.mem_append.1 h1 with h2 | h2
      · exact h.wf y (mem_ids.2 (.inl h2))
      · simp at h2; rw [h2]; exact hw
    · exact h.wf y (mem_ids.2 (.inr h1))
theorem Inv.ready (h : Inv s cn K) (hx : x ∈ s.M) (h0 : 0 ≤ t) (hK : t ≤ K) (ht : ∀ y ∈ s.I, (cn y).2 ≤ t) : Inv (rdy s x) (upd cn x (1, t + 1)) (K + 1) := by
  obtain ⟨n1, n2⟩ := h.m_out hx
  refine ⟨fun y hy => ?_, fun y hy => ?_, fun y hy => ?_, less_nodup h.nM x, h.nB, row_more h.row n1 ht, fun y hy => h.wf y ?_⟩
  · obtain ⟨h1, h2⟩ := mem_less.1 hy
    rw [upd_other h2]; exact h.mkg y h1
  · by_cases e : y = x
    · rw [e, upd_same]
      show (1 : Int) = 1 ∧ 1 ≤ t + 1 ∧ t + 1 ≤ ((K + 1 : Nat) : Int)
      omega
    · rw [upd_other e]
      rcases List.mem_append.1 hy with h1 | h1
      · have := h.idl y h1; omega
      · simp at h1; exact absurd h1 e
  · rw [upd_other (ne_of hy n2)]; exact h.bsy y hy
  · rcases mem_ids.1 hy with h1 | h1 | h1
    · exact mem_ids.2 (.inl (mem_less.1 h1).1)
    · rcases List.mem_append.1 h1 with h2 | h2
      · exact mem_ids.2 (.inr (.inl h2))
      · simp at h2; rw [h2]; exact mem_ids.2 (.inl hx)
    · exact mem_ids.2 (.inr (.inr h1))
theorem Inv.given (h : Inv s cn K) (hx : x ∈ s.B) (h0 : 0 ≤ t) (hK : t ≤ K) (ht : ∀ y ∈ s.I, (cn y).2 ≤ t) : Inv (gv s x) (upd cn x (1, t + 1)) (K + 1) := by
  obtain ⟨n1, n2⟩ := h.b_out hx
  refine ⟨fun y hy => ?_, fun y hy => ?_, fun y hy => ?_, h.nM, less_nodup h.nB x, row_more h.row n2 ht, fun y hy => h.wf y ?_⟩
  · rw [upd_other (ne_of hy n1)]; exact h.mkg y hy
  · by_cases e : y = x
    · rw [e, upd_same]
      show (1 : Int) = 1 ∧ 1 ≤ t + 1 ∧ t + 1 ≤ ((K + 1 : Nat) : Int)
      omega
    · rw [upd_other e]
      rcases List.mem_append.1 hy with h1 | h1
      · have := h.idl y h1; omega
      · simp at h1; exact absurd h1 e
  · obtain ⟨h1, h2⟩ := mem_less.1 hy
    rw [upd_other h2]; exact h.bsy y h1
  · rcases mem_ids.1 hy with h1 | h1 | h1
    · exact mem_ids.2 (.inl h1)
    · rcases List.mem_append.1 h1 with h2 | h2
      · exact mem_ids.2 (.inr (.inl h2))
      · simp at h2; rw [h2]; exact mem_ids.2 (.inr (.inr hx))
    · exact mem_ids.2 (.inr (.inr (mem_less.1 h1).1))
theorem Inv.taken (h : Inv s cn K) (hx : x ∈ s.I) : Inv (tk s x) (upd cn x (2, 0)) K := by
  obtain ⟨n1, n2⟩ := h.i_out hx
  refine ⟨fun y hy => ?_, fun y hy => ?_, fun y hy => ?_, h.nM, snoc_nodup h.nB n2, row_upd (List.Pairwise.filter _ h.row) (fun e => (mem_less.1 e).2 rfl), fun y hy => h.wf y ?_⟩
  · rw [upd_other (ne_of hy n1)]; exact h.mkg y hy
  · obtain ⟨h1, h2⟩ := mem_less.1 hy
    rw [upd_other h2]; exact h.idl y h1
  · by_cases e : y = x
    · rw [e, upd_same]
    · rw [upd_other e]
      rcases List.mem_append.1 hy with h1 | h1
      · exact h.bsy y h1
      · simp at h1; exact absurd h1 e
  · rcases mem_ids.1 hy with h1 | h1 | h1
    · exact mem_ids.2 (.inl h1)
    · exact mem_ids.2 (.inr (.inl (mem_less.1 h1).1))
    · rcases List.mem_append.1 h1 with h2 | h2
      · exact mem_ids.2 (.inr (.inr h2))
      · simp at h2; rw [h2]; exact mem_ids.2 (.inr (.inl hx))
theorem Inv.dropped (h : Inv s cn K) (x : Int) : Inv (dr s x) cn K := by
  refine ⟨fun y hy => h.mkg y (mem_less.1 hy).1, fun y hy => h.idl y (mem_less.1 hy).1, fun y hy => h.bsy y (mem_less.1 hy).1, less_nodup h.nM x, less_nodup h.nB x, List.Pairwise.filter _ h.row, fun y hy => h.wf y ?_⟩
  rcases mem_ids.1 hy with h1 | h1 | h1
  · exact mem_ids.2 (.inl (mem_less.1 h1).1)
  · exact mem_ids.2 (.inr (.inl (mem_less.1 h1).1))
  · exact mem_ids.2 (.inr (.inr (mem_less.1 h1).1))

theorem ids_made (x : Int) (s : St) : (mkS s x).ids.length = s.ids.length + 1 ∧ ∀ y, y ∈ (mkS s x).ids ↔ y ∈ s.ids ∨ y = x := by
  refine ⟨by simp [mkS, St.ids]; omega, fun y => ?_⟩
  simp only [mem_ids, mkS, List.mem_append, List.mem_singleton]
  constructor
  · rintro ((h | h) | h | h) <;> simp [h]
  · rintro ((h | h | h) | h) <;> simp [h]
theorem ids_ready (h : Inv s cn K) (hx : x ∈ s.M) : (rdy s x).ids.length = s.ids.length ∧ ∀ y, y ∈ (rdy s x).ids ↔ y ∈ s.ids ∨ y = x := by
  have := less_len h.nM hx
  refine ⟨by simp [rdy, St.ids]; omega, fun y => ?_⟩
  simp only [mem_ids, rdy, List.mem_append, List.mem_singleton, mem_less]
  by_cases e : y = x
  · simp [e]
  · simp [e]
theorem ids_given (h : Inv s cn K) (hx : x ∈ s.B) : (gv s x).ids.length = s.ids.length ∧ ∀ y, y ∈ (gv s x).ids ↔ y ∈ s.ids ∨ y = x := by
  have := less_len h.nB hx
  refine ⟨by simp [gv, St.ids]; omega, fun y => ?_⟩
  simp only [mem_ids, gv, List.mem_append, List.mem_singleton, mem_less]
  by_cases e : y = x
  · simp [e]
  · simp [e]
theorem ids_taken (h : Inv s cn K) (hx : x ∈ s.I) : (tk s x).ids.length = s.ids.length ∧ ∀ y, y ∈ (tk s x).ids ↔ y ∈ s.ids ∨ y = x := by
  have := less_len h.nI hx
  refine ⟨by simp [tk, St.ids]; omega, fun y => ?_⟩
  simp only [mem_ids, tk, List.mem_append, List.mem_singleton, mem_less]
  by_cases e : y = x
  · simp [e]
  · simp [e]
theorem ids_dr (s : St) (x : Int) : (dr s x).ids = less s.ids x := by simp [dr, St.ids, less]
theorem ids_dropped (h : Inv s cn K) (hx : x ∈ s.ids) : (dr s x).ids.length + 1 = s.ids.length ∧ ∀ y, y ∈ (dr s x).ids ↔ y ∈ s.ids ∧ y ≠ x := by
  rw [ids_dr]
  exact ⟨less_len h.nd hx, fun y => mem_less⟩
theorem dr_not (h : x ∉ s.ids) : dr s x = s := by
  have h' : x ∉ s.M ∧ x ∉ s.I ∧ x ∉ s.B := ⟨fun h1 => h (mem_ids.2 (.inl h1)), fun h1 => h (mem_ids.2 (.inr (.inl h1))), fun h1 => h (mem_ids.2 (.inr (.inr h1)))⟩
  unfold dr
  rw [less_not h'.1, less_not h'.2.1, less_not h'.2.2]
end

/-- The map tells of each connection what it is, and of no other. -/
structure Tells (D : DataW Unit) (s : St) (cn : Int → Int × Int) (K : Nat) : Prop where
  has : ∀ x ∈ s.ids, Maps.has D (.int .i64 x) = true ∧ ∀ z, D.atKey (.int .i64 x) z = cd (cn x)
  none : ∀ x, x ∉ s.ids → Maps.has D (.int .i64 x) = false
  size : Maps.size D = s.ids.length
  inv : Inv s cn K

theorem key_ne {a b : Int} (h : a ≠ b) : (Lit.int .i64 a) ≠ .int .i64 b := fun e => h (by injection e)

section
variable {D : DataW Unit} {s s' : St} {cn : Int → Int × Int} {K K' : Nat} {x : Int}
theorem Tells.hasB (h : Tells D s cn K) (x : Int) : Maps.has D (.int .i64 x) = decide (x ∈ s.ids) := by
  by_cases e : x ∈ s.ids
  · rw [(h.has x e).1, decide_eq_true e]
  · rw [h.none x e, decide_eq_false e]
theorem Tells.put (h : Tells D s cn K) (ht : Tidy D) {p : Int × Int} (hm : ∀ y, y ∈ s'.ids ↔ y ∈ s.ids ∨ y = x) (hl : s'.ids.length = if x ∈ s.ids then s.ids.length else s.ids.length + 1) (hi : Inv s' (upd cn x p) K') :
    Tells (D.put (.int .i64 x) (cd p)) s' (upd cn x p) K' := by
  refine ⟨fun y hy => ?_, fun y hy => ?_, ?_, hi⟩
  · by_cases e : y = x
    · subst e
      rw [upd_same]
      exact ⟨Maps.has_put_same ht.isMap (show WideAt.IsKeyLit (.int .i64 y) from trivial) _, fun z => Maps.atKey_put_same ht.isMap (show WideAt.IsKeyLit (.int .i64 y) from trivial) _ _⟩
    · rw [upd_other e, Maps.has_put_other (key_ne e)]
      have hy' : y ∈ s.ids := ((hm y).1 hy).resolve_right e
      exact ⟨(h.has y hy').1, fun z => by rw [Maps.atKey_put_other (key_ne e)]; exact (h.has y hy').2 z⟩
  · rw [Maps.has_put_other (key_ne (fun e => hy ((hm y).2 (.inr e))))]
    exact h.none y (fun h1 => hy ((hm y).2 (.inl h1)))
  · rw [Maps.size_put ht, h.hasB, hl, h.size]
    by_cases e : x ∈ s.ids <;> simp [e]
theorem Tells.del (h : Tells D s cn K) (ht : Tidy D) (hx : x ∈ s.ids) : Tells (D.del (.int .i64 x)) (dr s x) cn K := by
  obtain ⟨hl, hm⟩ := ids_dropped h.inv hx
  refine ⟨fun y hy => ?_, fun y hy => ?_, ?_, h.inv.dropped x⟩
  · obtain ⟨h1, h2⟩ := (hm y).1 hy
    rw [Maps.has_del_other (key_ne h2)]
    exact ⟨(h.has y h1).1, fun z => by rw [Maps.atKey_del_other (key_ne h2)]; exact (h.has y h1).2 z⟩
  · by_cases e : y = x
    · subst e; exact Maps.has_del_same
    · rw [Maps.has_del_other (key_ne e)]
      exact h.none y (fun h1 => hy ((hm y).2 ⟨h1, e⟩))
  · have := Maps.size_del (k := .int .i64 x) ht
    rw [(h.has x hx).1] at this
    simp at this
    have := h.size
    omega
end

end Go.Proofs.Ytedbiaopbfejfaa
