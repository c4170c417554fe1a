/-
  The map of a wheel: each key leads to its entry's block. How it is asked, written and struck. Conditions: the map lies where it is said to lie; keys are ints.
-/
import Derived.Test.YtahdeliopmkpmaaOps
import Derived.Maps.OwnSet
import Derived.Maps.Ext
namespace Go.Proofs.Ytahdeliopmkpmaa
open Go.ChangeShapes Go.WideShapes Go.ChangeAt Go.RowKit Go.Maps

/-- How a pointer to a block reads. -/
def ptrElem : Value → Option (DataW Unit × List MemPlace)
  | .pointer none => some (.nil, [])
  | .pointer (some ⟨b, 0, none⟩) => some (.lit (.int .i64 b), [])
  | _ => none

theorem ptrElem_mk (b : Nat) : ptrElem (.pointer (some ⟨b, 0, none⟩)) = some (.lit (.int .i64 b), []) := rfl
theorem ptrElem_inv {v : Value} {b : Nat} {ps : List MemPlace} (h : ptrElem v = some (.lit (.int .i64 b), ps)) : v = .pointer (some ⟨b, 0, none⟩) := by
  unfold ptrElem at h
  split at h
  · simp at h
  · simp at h
    rename_i b'
    obtain rfl : b' = b := by omega
    rfl
  · simp at h
theorem ptrElem_nil {v : Value} {ps : List MemPlace} (h : ptrElem v = some (.nil, ps)) : v = .pointer none := by
  unfold ptrElem at h
  split at h
  · rfl
  · simp at h
  · simp at h

theorem keyed3 : Keyed Try.prog 3 := int_keyed Try.underlying3
theorem zero63 (w : World) : (zeroValue 63).run Try.prog w = .ok (.pointer none) w := by kernel_rfl
/-- An int. -/
def Wf (k : Int) : Prop := (Lit.int .i64 k).wf = true
theorem keyOf3 {k : Int} (h : Wf k) : keyOf Try.prog 3 (.int .i64 k) = some (.int .i64 k) := keyOf_int_mk Try.underlying3 h

/-- The map tells of each entry's key its block, and of no other. -/
structure Tells (D : DataW Unit) (L : List Ent) : Prop where
  has : ∀ e ∈ L, Maps.has D (.int .i64 e.k) = true ∧ ∀ z, D.atKey (.int .i64 e.k) z = .lit (.int .i64 e.b)
  none : ∀ k, (∀ e ∈ L, e.k ≠ k) → Maps.has D (.int .i64 k) = false

theorem Tells.perm {D : DataW Unit} {L L' : List Ent} (h : Tells D L) (hp : L'.Perm L) : Tells D L' :=
  ⟨fun e he => h.has e (hp.mem_iff.1 he), fun k hk => h.none k (fun e he => hk e (hp.mem_iff.2 he))⟩

/-- The map mv is L's; its block is none of A. -/
def MIn (w : World) (A : Nat → Prop) (mv : Value) (L : List Ent) : Prop :=
  (mv = .map none ∧ L = []) ∨ ∃ gm D, mv = .map (some gm) ∧ ¬ A gm ∧ w.ownsMap Try.prog 3 ptrElem gm L.length D ∧ Tells D L

theorem MIn.perm {w : World} {A : Nat → Prop} {mv : Value} {L L' : List Ent} (h : MIn w A mv L) (hp : L'.Perm L) : MIn w A mv L' := by
  rcases h with ⟨h1, rfl⟩ | ⟨gm, D, h1, h2, h3, h4⟩
  · exact .inl ⟨h1, hp.eq_nil⟩
  · exact .inr ⟨gm, D, h1, h2, by rw [hp.length_eq]; exact h3, h4.perm hp⟩

theorem MIn.of_block {w w' : World} {A : Nat → Prop} {mv : Value} {L : List Ent} (h : MIn w A mv L) (hb : ∀ gm, mv = .map (some gm) → w'.heap[gm]? = w.heap[gm]?) : MIn w' A mv L := by
  rcases h with h | ⟨gm, D, h1, h2, ⟨es, cl, h3, r⟩, h4⟩
  · exact .inl h
  · exact .inr ⟨gm, D, h1, h2, ⟨es, cl, (hb gm h1).trans h3, r⟩, h4⟩

theorem MIn.keep {w w' : World} {A B : Nat → Prop} {mv : Value} {L : List Ent} (h : MIn w A mv L) (hk : Keep B w w') (hB : ∀ gm, mv = .map (some gm) → B gm) : MIn w' A mv L := by
  refine h.of_block fun gm hg => ?_
  rcases h with ⟨h1, _⟩ | ⟨gm', D, h1, _, h3, _⟩
  · rw [h1] at hg; simp at hg
  · rw [h1] at hg; simp at hg; subst hg
    exact hk.block gm' h3.lt (hB gm' h1)

/-- A key that is there. -/
theorem MIn.look {w : World} {A : Nat → Prop} {mv : Value} {L : List Ent} (h : MIn w A mv L) {e : Ent} (he : e ∈ L) (hw : Wf e.k) (c : Bool) :
    (Instr.lookup 58 mv (.int .i64 e.k) c).run Try.prog w = .ok (if c then .tuple #[ptrE e, .bool true] else ptrE e) w := by
  rcases h with ⟨_, rfl⟩ | ⟨gm, D, rfl, _, hown, ht⟩
  · simp at he
  · obtain ⟨h1, h2⟩ := ht.has e he
    cases c with
    | true =>
      obtain ⟨v, ps, hrun, hv⟩ := hown.look_ok keyed3 Try.underlying58 (zero63 w) (zd := .nil) (zp := []) rfl (keyOf3 hw)
      rw [h2] at hv
      rw [h1, ptrElem_inv hv] at hrun
      exact hrun
    | false =>
      obtain ⟨v, ps, hrun, hv⟩ := hown.lookup keyed3 Try.underlying58 (zero63 w) (zd := .nil) (zp := []) rfl (keyOf3 hw)
      rw [h2] at hv
      rw [ptrElem_inv hv] at hrun
      exact hrun

/-- A key that isn't there. -/
theorem MIn.miss {w : World} {A : Nat → Prop} {mv : Value} {L : List Ent} (h : MIn w A mv L) {k : Int} (hn : ∀ e ∈ L, e.k ≠ k) (hw : Wf k) :
    (Instr.lookup 58 mv (.int .i64 k) true).run Try.prog w = .ok (.tuple #[.pointer none, .bool false]) w := by
  rcases h with ⟨rfl, rfl⟩ | ⟨gm, D, rfl, _, hown, ht⟩
  · exact Maps.look_nil true keyed3 Try.underlying58 (zero63 w) (keyOf3 hw)
  · have h1 := ht.none k hn
    obtain ⟨v, ps, hrun, hv⟩ := hown.look_ok keyed3 Try.underlying58 (zero63 w) (zd := .nil) (zp := []) rfl (keyOf3 hw)
    rw [Maps.atKey_of_not_has h1] at hv
    rw [h1, ptrElem_nil hv] at hrun
    exact hrun

theorem ownsMap_tight {w : World} {gm n : Nat} {D : DataW Unit} (h : w.ownsMap Try.prog 3 ptrElem gm n D) : w.ownsMap Try.prog 3 ptrElem gm (Maps.size D) D := by
  obtain ⟨es, cl, h1, h2, h3, rfl⟩ := h
  exact ⟨es, cl, h1, h2, by simp [Maps.size, length_sorted], rfl⟩

theorem key_ne {a b : Int} (h : a ≠ b) : (Lit.int .i64 a) ≠ .int .i64 b := fun e => h (by injection e)

theorem Tells.put {D : DataW Unit} {L : List Ent} (h : Tells D L) (hm : IsMap D) {e : Ent} (hn : ∀ x ∈ L, x.k ≠ e.k) : Tells (D.put (.int .i64 e.k) (.lit (.int .i64 e.b))) (L ++ [e]) := by
  refine ⟨fun x hx => ?_, fun k hk => ?_⟩
  · rcases List.mem_append.1 hx with hx | hx
    · have hne := key_ne (hn x hx)
      rw [Maps.has_put_other hne]
      refine ⟨(h.has x hx).1, fun z => ?_⟩
      rw [Maps.atKey_put_other hne]
      exact (h.has x hx).2 z
    · simp at hx
      subst hx
      exact ⟨Maps.has_put_same hm (show WideAt.IsKeyLit (.int .i64 x.k) from trivial) _, fun z => Maps.atKey_put_same hm (show WideAt.IsKeyLit (.int .i64 x.k) from trivial) _ _⟩
  · rw [Maps.has_put_other (key_ne (fun e1 => hk e (by simp) e1.symm))]
    exact h.none k (fun x hx => hk x (by simp [hx]))

theorem Tells.del {D : DataW Unit} {L L' : List Ent} {e : Ent} (h : Tells D L) (hp : (e :: L').Perm L) (hd : ∀ x ∈ L', x.k ≠ e.k) : Tells (D.del (.int .i64 e.k)) L' := by
  refine ⟨fun x hx => ?_, fun k hk => ?_⟩
  · have hne := key_ne (hd x hx)
    have hxL : x ∈ L := hp.mem_iff.1 (by simp [hx])
    rw [Maps.has_del_other hne]
    refine ⟨(h.has x hxL).1, fun z => ?_⟩
    rw [Maps.atKey_del_other hne]
    exact (h.has x hxL).2 z
  · by_cases e1 : k = e.k
    · subst e1; exact Maps.has_del_same
    · rw [Maps.has_del_other (key_ne e1)]
      refine h.none k (fun x hx => ?_)
      rcases List.mem_cons.1 (hp.mem_iff.2 hx) with rfl | hx'
      · exact fun e2 => e1 e2.symm
      · exact hk x hx'

end Go.Proofs.Ytahdeliopmkpmaa
