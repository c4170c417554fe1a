/-
  What the document's Place, without and with answer, each as a contract. Conditions: the slices read as texts; of without and with, at most 4000 of them.
-/
import Derived.Test.YtmlkpfkeeifgeaaDoorMem
namespace Go.Proofs.YtmlkpfkeeifgeaaDoor
open Go.ChangeShapes Go.WideShapes Go.ChangeAt Go.RowKit Go.Joins Go.Deep

set_option maxRecDepth 100000 in
theorem place_any (a : Option Addr) (len cap : Nat) (ss : List ByteArray) (x : ByteArray) (w : World) (h : StrsAt w a len cap ss) :
    Calls Tryd.prog 49 #[.slice a len cap, .string x] w fun e w' => e = .returned (.int .i64 (plc x ss)) ∧ w' = w := by
  have hcap := h.hcap
  have hle := h.hle
  have HL : Hid (ss.length = len) := h.hlen
  unfold maxLen at hcap
  have H : Hid (StrsAt w a len cap ss) := h
  have HW : Hid ((∀ j, j < fidx x ss → ss.getD j ⟨#[]⟩ ≠ x) ∧ (fidx x ss < len → ss.getD (fidx x ss) ⟨#[]⟩ = x)) := ⟨fidx_lt x ss, fun hj => fidx_at x ss (by rw [HL.out]; exact hj)⟩
  have hF := fidx_le x ss
  rw [HL.out] at hF
  have HP : Hid (plc x ss = if fidx x ss < len then (fidx x ss : Int) else -1) := by show _ = _; unfold plc; rw [HL.out]
  generalize plc x ss = P at *
  generalize fidx x ss = F at *
  clear h
  go_enter Tryd.func49, Tryd.ntmps49
  go_wp2
  go_loopw [5] (fun v5 wr => ∃ i : Nat, v5 = .int .i64 i ∧ i ≤ F ∧ wr = w) (fun v5 _ => len + 1 - (intOf v5).toNat)
  case atStart => exact ⟨0, rfl, Nat.zero_le _, rfl⟩
  case round =>
    obtain ⟨i, rfl, hi, hw⟩ := hrel
    subst hw
    by_cases hin : i < len
    · obtain ⟨b, off, rfl, hb, hc⟩ := H.out.at_ i hin
      by_cases hc1 : i < F
      · obtain ⟨e1, e2⟩ := ne_bytes (HW.out.1 i hc1)
        generalize ss.getD i ⟨#[]⟩ = f at *
        go_wp2
        exact ⟨⟨i + 1, by simp, by omega, trivial⟩, by simp [intOf]; omega⟩
      · obtain rfl : F = i := by omega
        have hx := HW.out.2 hin
        have HE : Hid (P = (F : Int)) := by show _ = _; rw [HP.out, if_pos hin]
        rw [hx] at hc
        clear hx
        go_wp2
        go_ret
        exact ⟨ret_int HE.out.symm, rfl⟩
    · obtain rfl : len = i := by omega
      have HE : Hid (P = -1) := by show _ = _; rw [HP.out, if_neg (by omega)]
      go_wp2
      go_ret
      exact ⟨ret_int HE.out.symm, rfl⟩

/-- A list without a name. -/
def wol (x : ByteArray) (l : List ByteArray) : List ByteArray := l.filter (fun y => !decide (y = x))
theorem wol_len (x : ByteArray) (l : List ByteArray) : (wol x l).length ≤ l.length := List.length_filter_le _ _
theorem wol_yes {x : ByteArray} {l : List ByteArray} {i : Nat} (h : i < l.length) (hp : ¬ l.getD i ⟨#[]⟩ = x) : wol x (l.take (i + 1)) = wol x (l.take i) ++ [l.getD i ⟨#[]⟩] := by
  unfold wol
  rw [take_snoc h, List.filter_append]
  generalize l.getD i ⟨#[]⟩ = y at *
  simp [hp]
theorem wol_no {x : ByteArray} {l : List ByteArray} {i : Nat} (h : i < l.length) (hp : l.getD i ⟨#[]⟩ = x) : wol x (l.take (i + 1)) = wol x (l.take i) := by
  unfold wol
  rw [take_snoc h, List.filter_append]
  generalize l.getD i ⟨#[]⟩ = y at *
  simp [hp]

set_option maxHeartbeats 2000000 in
set_option maxRecDepth 100000 in
theorem without_any (a : Option Addr) (len cap : Nat) (ss : List ByteArray) (x : ByteArray) (w : World) (h : StrsAt w a len cap ss) (hl : len ≤ 4000) :
    Calls Tryd.prog 105 #[.slice a len cap, .string x] w fun e w' => ∃ v, e = .returned v ∧ w'.ownsRow w.heap.size 9 1 v (wol x ss).length (sc (wol x ss)) ∧ Below w.heap.size w w' := by
  obtain ⟨i0, hi, hz0, hz1, hz2⟩ := info_parts info9
  have hcap := h.hcap
  have hle := h.hle
  unfold maxLen at hcap
  have HL : Hid (ss.length = len) := h.hlen
  have H : Hid (StrsAt w a len cap ss) := h
  have HT : Hid (ss.take len = ss) := by show _ = _; rw [← HL.out, List.take_length]
  clear h
  go_enter Tryd.func105, Tryd.ntmps105
  go_wp2
  go_loopw [6, 5] (fun v6 v wr => ∃ i : Nat, v6 = .int .i64 i ∧ i ≤ len ∧ wr.ownsRow w.heap.size 9 1 v (wol x (ss.take i)).length (sc (wol x (ss.take i))) ∧ Below w.heap.size w wr) (fun v6 _ _ => len + 1 - (intOf v6).toNat)
  case atStart => exact ⟨0, rfl, Nat.zero_le _, by simpa [wol, sc] using World.ownsRow_nil _ _ _ _, Below.refl _ _⟩
  case round =>
    obtain ⟨i, rfl, hin0, hown, hbel⟩ := hrel
    by_cases hin : i < len
    · obtain ⟨b, off, rfl, hb, hc⟩ := (H.out.below (Nat.le_refl _) hbel).at_ i hin
      have hil : i < ss.length := by rw [HL.out]; exact hin
      have HY : Hid (¬ ss.getD i ⟨#[]⟩ = x → wol x (ss.take (i + 1)) = wol x (ss.take i) ++ [ss.getD i ⟨#[]⟩]) := wol_yes hil
      have HN : Hid (ss.getD i ⟨#[]⟩ = x → wol x (ss.take (i + 1)) = wol x (ss.take i)) := wol_no hil
      have hdl := wol_len x (ss.take i)
      rw [List.length_take] at hdl
      generalize wol x (ss.take i) = l at *
      generalize ss.getD i ⟨#[]⟩ = f at *
      clear hil
      by_cases he : f = x
      · rw [← HN.out he] at hown
        subst he
        clear HY HN
        go_wp2
        exact ⟨⟨i + 1, by simp, by omega, hown, hbel⟩, by simp [intOf]; omega⟩
      · obtain ⟨e1, e2⟩ := ne_bytes he
        have e3 : (f.toList != x.toList) = true := by simpa using e2
        have HE := Hid.mk' (HY.out he)
        clear HY HN he
        go_wp2_with (first
          | (at_builtin; refine wpList_append_own _ rfl _ _ 27 rfl w.heap.size 9 i0 (.string ⟨#[]⟩) 1 16 Tryd.underlying27 hi hz0 hz1 hz2 rfl (by decide) _ l.length _ rfl (hown.alloc _) ⟨wr.heap.size, 0, none⟩ 1 1 [.string f] rfl rfl (news_one _ _ _) (str_one _) (by unfold maxLen; omega) (by omega) (by have := hbel.size; simp; omega) ?_))
        intro v3 w3 hown3 hgrow3 _
        have hbel3 : Below w.heap.size w w3 := (hbel.alloc hbel.size _).grown hgrow3 (by have := hbel.size; simp; omega) (fun j hj => (hown.lt j hj).1)
        have hown4 : w3.ownsRow w.heap.size 9 1 v3 (l ++ [f]).length (sc (l ++ [f])) := by rw [sc_snoc, List.length_append]; exact hown3
        rw [← HE.out] at hown4
        clear hown3 hgrow3 hown hbel
        go_wp2
        exact ⟨⟨i + 1, by simp, by omega, hown4, hbel3⟩, by simp [intOf]; omega⟩
    · obtain rfl : len = i := by omega
      rw [HT.out] at hown
      go_wp2
      go_ret
      exact ⟨_, rfl, hown, hbel⟩

end Go.Proofs.YtmlkpfkeeifgeaaDoor
