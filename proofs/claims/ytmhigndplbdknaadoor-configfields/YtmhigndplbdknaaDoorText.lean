/-
  What config's Text answers, as a contract: the config's text; it turns nothing that was there. Conditions: a config has 15 numbers, each of which an int holds; the library's table reads as it is laid.
-/
import Derived.Test.YtmhigndplbdknaaDoorParse
namespace Go.Proofs.YtmhigndplbdknaaDoor
open Go.ChangeShapes Go.WideShapes Go.ChangeAt Go.RowKit

/-- Each number is one that an int holds. -/
def ok64 (l : List Int) : Prop := ∀ v ∈ l, -9223372036854775808 ≤ v ∧ v ≤ 9223372036854775807
theorem ok64_get {l : List Int} (h : ok64 l) (j : Nat) (hj : j < l.length) : -9223372036854775808 ≤ l.getD j 0 ∧ l.getD j 0 ≤ 9223372036854775807 := by
  have := h l[j] (List.getElem_mem hj)
  simpa [List.getD, hj] using this
theorem lens_le {k : Nat} : ∀ (xs : List (List UInt8)), (∀ x ∈ xs, x.length ≤ k) → Lib.lens xs ≤ k * xs.length
  | [], _ => by simp [Lib.lens]
  | x :: xs, h => by
    have h1 := h x (by simp)
    have h2 := lens_le xs (fun y hy => h y (by simp [hy]))
    simp only [Lib.lens, List.map_cons, List.sum_cons, List.length_cons] at h2 ⊢
    rw [Nat.mul_add]
    omega
theorem txt_len {l : List Int} (h : l.length = 15) (hk : ok64 l) : (txt l).length ≤ 400 := by
  unfold txt
  cases l with
  | nil => simp at h
  | cons a l =>
    simp only [List.map_cons]
    rw [Lib.join_length]
    have := lens_le (k := 21) (Lib.itoa a :: l.map Lib.itoa) (by
      intro x hx
      rw [← List.map_cons (f := Lib.itoa)] at hx
      simp only [List.mem_map] at hx
      obtain ⟨v, hv, rfl⟩ := hx
      exact itoa_le v (hk v hv).1 (hk v hv).2)
    simp at this h ⊢
    omega

/-- Texts as cells. -/
def sc (ss : List ByteArray) : Array Value := (ss.map Value.string).toArray
theorem sc_size (ss : List ByteArray) : (sc ss).size = ss.length := by simp [sc]
theorem sc_get (ss : List ByteArray) (j : Nat) (x : ByteArray) (h : ss[j]? = some x) : (sc ss)[j]? = some (.string x) := by simp [sc, h]
theorem sc_set (ss : List ByteArray) (j : Nat) (v : ByteArray) : (sc ss).setIfInBounds j (.string v) = sc (ss.set j v) := by
  apply Array.ext'
  simp [sc, List.map_set]
def wd (v : Int) : ByteArray := mk (Lib.itoa v)
/-- The words written so far. -/
def wds (l : List Int) (i : Nat) : List ByteArray := (l.take i).map wd ++ List.replicate (15 - i) ⟨#[]⟩
theorem wds_set {l : List Int} (hl : l.length = 15) {i : Nat} (hi : i < 15) : (wds l i).set i (wd (l.getD i 0)) = wds l (i + 1) := by
  unfold wds
  have e1 : ((l.take i).map wd).length = i := by simp; omega
  rw [List.set_append_right _ _ (by omega), e1, Nat.sub_self]
  have e2 : 15 - i = (15 - (i + 1)) + 1 := by omega
  rw [e2, List.replicate_succ, List.set_cons_zero]
  have e3 : l.take (i + 1) = l.take i ++ [l.getD i 0] := by
    rw [List.take_add_one]
    simp [List.getD, show i < l.length by omega]
  rw [e3]
  simp
theorem wds_all {l : List Int} (hl : l.length = 15) : wds l 15 = l.map wd := by
  unfold wds
  rw [List.take_of_length_le (by omega)]
  simp
theorem wds_len {l : List Int} (hl : l.length = 15) {i : Nat} (hi : i ≤ 15) : (wds l i).length = 15 := by
  unfold wds
  simp
  omega

structure TR (w : World) (l : List Int) (i : Nat) (wr : World) : Prop where
  c : wr.heap[w.heap.size]? = some (.cells (cc l) 23 (0, 0))
  s : wr.heap[w.heap.size + 1]? = some (.cells (sc (wds l i)) 56 (0, 0))
  env : Env w
  bel : Below w.heap.size w wr
theorem TR.keep {w : World} {l : List Int} {i : Nat} {wr w' : World} (h : TR w l i wr) (hb : Below wr.heap.size wr w') : TR w l i w' :=
  ⟨keep_blk hb h.c, keep_blk hb h.s, h.env, h.bel.trans (hb.mono h.bel.size)⟩
theorem TR.next {w : World} {l : List Int} {i : Nat} {wr : World} (hl : l.length = 15) (hi : i < 15) (h : TR w l i wr) : TR w l (i + 1) (wr.setCell ⟨w.heap.size + 1, i, none⟩ (.string (wd (l.getD i 0)))) := by
  refine ⟨?_, ?_, h.env, h.bel.setCell (by simp) _⟩
  · rw [heap_setCell_other _ _ _ _ (by simp)]
    exact h.c
  · rw [heap_setCell_same _ _ _ _ _ _ h.s, sc_set, wds_set hl hi]

set_option maxRecDepth 100000 in
set_option maxHeartbeats 2000000 in
theorem text_any (l : List Int) (hl : l.length = 15) (hk : ok64 l) (w : World) (hE : Env w) :
    Calls Tryd.prog 14 #[.agg (cc l)] w fun e w' => e = .returned (.string (mk (txt l))) ∧ Below w.heap.size w w' := by
  go_enter Tryd.func14, Tryd.ntmps14
  go_wp2_with fail
  refine (fields_any _ _).mono ?_
  rintro e w2 ⟨rfl, hb2⟩
  have HP : Hid (TR w l 0 w2) := by
    refine ⟨?_, ?_, hE, (((Below.refl _ _).alloc (Nat.le_refl _) _).alloc (by simp) _).trans (hb2.mono (by simp; omega))⟩
    · rw [hb2.block _ (by simp; omega)]
      exact heap_alloc2_old _ _ _
    · rw [hb2.block _ (by simp)]
      exact heap_alloc2_new _ _ _
  clear hb2 hE
  go_wp2
  go_loopw [7] (fun v7 wr => ∃ i : Nat, v7 = .int .i64 i ∧ i ≤ 15 ∧ TR w l i wr) (fun v7 _ => 15 - (intOf v7).toNat)
  case atStart => exact ⟨0, rfl, by omega, HP.out⟩
  case round =>
    clear HP
    obtain ⟨i, rfl, hi, hP⟩ := hrel
    have HP := Hid.mk' hP
    clear hP
    by_cases hc : i < 15
    · have hidx := run_idx w.heap.size i hc wr
      have x1 : wr.cell? ⟨w.heap.size, i, none⟩ = some (.int .i64 (l.getD i 0)) := by
        rw [cell_of_row _ _ _ _ _ _ HP.out.c, cc_get l i (by omega)]
      have hit := itoa_any (l.getD i 0) (ok64_get hk i (by omega)).1 (ok64_get hk i (by omega)).2 wr (HP.out.env.below HP.out.bel)
      have HN : Hid (∀ wr, TR w l i wr → TR w l (i + 1) (wr.setCell ⟨w.heap.size + 1, i, none⟩ (.string (wd (l.getD i 0))))) := fun wr h => h.next hl hc
      have HW : Hid (mk (Lib.itoa (l.getD i 0)) = wd (l.getD i 0)) := rfl
      rw [HW.out] at hit
      clear HW
      have HL : Hid (l.length = 15 ∧ ok64 l) := ⟨hl, hk⟩
      clear hl hk
      generalize wd (l.getD i 0) = S at *
      generalize l.getD i 0 = X at *
      go_wp2_with fail
      refine hit.mono ?_
      rintro e w3 ⟨rfl, hb3⟩
      have HP3 := Hid.mk' (HP.out.keep hb3)
      have HQ := Hid.mk' (HN.out _ HP3.out)
      obtain ⟨old, hold⟩ : ∃ old, (wds l i)[i]? = some old := ⟨_, List.getElem?_eq_getElem (by rw [wds_len HL.out.1 hi]; exact hc)⟩
      have x2 : w3.cell? ⟨w.heap.size + 1, i, none⟩ = some (.string old) := by
        rw [cell_of_row _ _ _ _ _ _ HP3.out.s, sc_get _ _ _ hold]
      have x3 : w3.frozen? ⟨w.heap.size + 1, i, none⟩ = false := frozen_of_row _ _ _ _ _ HP3.out.s
      clear hit hb3 HN HP hold
      go_wp2
      exact ⟨⟨i + 1, by simp, by omega, HQ.out⟩, by simp [intOf]; omega⟩
    · obtain rfl : i = 15 := by omega
      have hj := Tryd.strings_Join (w.heap.size + 1) 0 15 (l.map wd) ⟨#[32]⟩ wr (fun j x hx => by
          rw [Nat.zero_add, cell_of_row _ _ _ _ _ _ HP.out.s, wds_all hl, sc_get _ _ _ hx]) (lt_of_some HP.out.s) (by simp; omega) (by simp; omega) (by
          have := txt_len hl hk
          have e : Lib.join ((l.map wd).map (·.data.toList)) [32] = txt l := by
            unfold txt
            rw [List.map_map]
            rfl
          show (Lib.join ((l.map wd).map (·.data.toList)) [32]).length ≤ _
          rw [e]
          omega)
      have e : (⟨(Lib.join ((l.map wd).map (·.data.toList)) [32]).toArray⟩ : ByteArray) = mk (txt l) := by
        unfold txt
        rw [List.map_map]
        rfl
      have hj' : Calls Tryd.prog 27 #[.slice (some ⟨w.heap.size + 1, 0, none⟩) 15 15, .string ⟨#[32]⟩] wr fun e w' => e = .returned (.string (mk (txt l))) ∧ Below wr.heap.size wr w' := by
        rw [← e]
        have e2 : (l.map wd).length = 15 := by simp [hl]
        rw [e2] at hj
        exact hj
      clear hj e
      go_wp2_with fail
      refine hj'.mono ?_
      rintro e w3 ⟨rfl, hb3⟩
      clear hj'
      go_wp2
      go_ret
      exact ⟨rfl, HP.out.bel.trans (hb3.mono HP.out.bel.size)⟩

end Go.Proofs.YtmhigndplbdknaaDoor
