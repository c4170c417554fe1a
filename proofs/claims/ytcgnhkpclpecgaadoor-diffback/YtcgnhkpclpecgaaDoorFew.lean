/-
  few is the first 20 texts, the first 20 bytes of each, in a new row; nothing that was there is turned. Conditions: the slice reads as texts, each no longer than the greatest length.
-/
import Derived.Test.YtcgnhkpclpecgaaDoorDiff
import Derived.Deep.RegionHeldLaw
import Derived.Deep.AppendLies
import Derived.Deep.DrawnRows
namespace Go.Proofs.YtcgnhkpclpecgaaDoor
open Go.ChangeShapes Go.WideShapes Go.ChangeAt Go.RowKit
attribute [local go_sem ↓] Go.wp_at_zero Go.wp_at_succ

def cut20 (s : ByteArray) : ByteArray := s.extract 0 (min s.size 20)
theorem cut20_size (s : ByteArray) : (cut20 s).size ≤ 20 := by
  unfold cut20
  rw [ByteArray.size_extract]
  omega
theorem cut20_short {s : ByteArray} (h : s.size ≤ 20) : cut20 s = s := by unfold cut20; rw [Nat.min_eq_left h]; simp
theorem cut20_long {s : ByteArray} (h : ¬ s.size ≤ 20) : cut20 s = s.extract 0 20 := by unfold cut20; rw [Nat.min_eq_right (by omega)]

/-- The first k, each cut. -/
def fewL (ss : List ByteArray) (k : Nat) : List ByteArray := (ss.take k).map cut20
theorem fewL_zero (ss : List ByteArray) : fewL ss 0 = [] := by simp [fewL]
theorem fewL_snoc (ss : List ByteArray) (k : Nat) (h : k < ss.length) : fewL ss (k + 1) = fewL ss k ++ [cut20 (ss.getD k ⟨#[]⟩)] := by
  unfold fewL
  rw [List.take_succ_eq_append_getElem h, List.map_append]
  simp [List.getD, h]
theorem fewL_size (ss : List ByteArray) (k : Nat) : ∀ s ∈ fewL ss k, s.size ≤ 20 := by
  intro s hs
  obtain ⟨t, _, rfl⟩ := List.mem_map.1 hs
  exact cut20_size t
theorem fewL_length (ss : List ByteArray) (k : Nat) (h : k ≤ ss.length) : (fewL ss k).length = k := by
  unfold fewL
  rw [List.length_map, List.length_take]
  omega

set_option maxHeartbeats 2000000 in
set_option maxRecDepth 100000 in
theorem few_any (a : Option Addr) (len cap : Nat) (ss : List ByteArray) (w : World) (h : StrsAt w a len cap ss) (hsz : ∀ s ∈ ss, s.size ≤ maxLen) :
    Calls Tryd.prog 6 #[.slice a len cap] w fun e w' => ∃ v n l, e = .returned v ∧ n ≤ 20 ∧ l.length = n ∧ (∀ s ∈ l, s.size ≤ 20) ∧ w'.ownsRow w.heap.size 9 1 v n (sc l) ∧ Below w.heap.size w w' := by
  have hcap := h.hcap
  have hle := h.hle
  unfold maxLen at hcap
  obtain ⟨i0, hi, hz0, hz1, hz2⟩ := info_parts info9
  have H : Hid (StrsAt w a len cap ss) := h
  have HL : Hid (ss.length = len) := h.hlen
  have HS : Hid (∀ s ∈ ss, s.size ≤ maxLen) := hsz
  clear h hsz
  go_enter Tryd.func6, Tryd.ntmps6
  go_wp2
  go_loopw [3, 4] (fun v i wr => ∃ k : Nat, k ≤ len ∧ k ≤ 20 ∧ i = .int .i64 k ∧ wr.ownsRow w.heap.size 9 1 v k (sc (fewL ss k)) ∧ Below w.heap.size w wr)
    (fun _ i _ => 20 - (intOf i).toNat)
  case atStart => exact ⟨0, Nat.zero_le _, Nat.zero_le _, rfl, by rw [fewL_zero]; exact World.ownsRow_nil _ _ _ _, Below.refl _ _⟩
  case round =>
    obtain ⟨k, hk, hk20, rfl, hown, hbel⟩ := hrel
    by_cases hgo : k < len ∧ k < 20
    · obtain ⟨hlt, h20⟩ := hgo
      obtain ⟨b, off, rfl, hb, hc0⟩ := H.out.at_ k hlt
      have hc := (hbel.cell (p := ⟨b, off + k, none⟩) hb).trans hc0
      have hbr : b < wr.heap.size := Nat.lt_of_lt_of_le hb hbel.size
      have hkl : k < ss.length := by have := HL.out; omega
      have SN : Hid (fewL ss (k + 1) = fewL ss k ++ [cut20 (ss.getD k ⟨#[]⟩)]) := fewL_snoc ss k hkl
      have hfk : (ss.getD k ⟨#[]⟩).size ≤ maxLen := by
        have e : ss.getD k ⟨#[]⟩ = ss[k] := by simp [List.getD, hkl]
        rw [e]
        exact HS.out _ (List.getElem_mem hkl)
      generalize ss.getD k ⟨#[]⟩ = f at hc SN hfk
      have hkn : (k : Int) < (len : Int) := by omega
      have hk0 : (0 : Int) ≤ (k : Int) := Int.natCast_nonneg _
      have hzz := hbel.size
      have hne : u3.ownBlock ≠ some b := fun e => by have := (hown.lt _ e).1; omega
      unfold maxLen at hfk
      clear hc0
      by_cases hf : f.size ≤ 20
      · rw [cut20_short hf] at SN
        go_wp2_with fail
        go_region_held_law (fun w' => w'.cell? ⟨b, off + k, none⟩ = some (.string f))
          (first
            | go_keep
            | (rw [hgrow.cell_far _ (by simp; omega) (Ne.symm hne)]; assumption))
          ((refine step_append_lies _ (by rfl) _ _ _ (by rfl) w.heap.size 9 i0 _ 1 16 Tryd.underlying22 hi hz0 hz1 hz2 rfl (by omega) u3 k (sc (fewL ss k)) (by rfl) ((hown.alloc _).drew)
              ⟨wr.heap.size, 0, none⟩ 1 1 [.string f] (by rfl) (by rfl) (World.news_of_block (cs := #[.string f]) (t := 9) (fr := (0, 0)) (heap_alloc_new wr _)) (by simp [Value.oneCell'])
              (by omega) (by unfold maxLen; omega) (by omega) (by simp; omega) (wr.heap.size + 1) (by simp) ?_; intro gg cp w3 hown3 hgrow hat hlt3))
        have hbel3 : Below w.heap.size w w3 := ((hbel.alloc hbel.size (.cells #[.string f] 9)).drew).grown hgrow (by simp; omega) (fun j hj => (hown.lt j hj).1)
        have hown4 : w3.ownsRow w.heap.size 9 1 (.slice (some ⟨gg, 0, none⟩) (k + 1) cp) (k + 1) (sc (fewL ss (k + 1))) := by rw [SN.out, sc_append]; exact hown3
        clear hown3 hgrow hown hbel
        go_wp2
        go_roundw
        case rel => exact ⟨k + 1, by omega, by omega, by go_num, hown4, hbel3⟩
        case measure => simp [intOf]; omega
      · rw [cut20_long hf] at SN
        have hf20 : (20 : Int) < (f.size : Int) := by omega
        go_wp2_with fail
        go_region_held_law (fun w' => w'.cell? ⟨b, off + k, none⟩ = some (.string f))
          (first
            | go_keep
            | (rw [hgrow.cell_far _ (by simp; omega) (Ne.symm hne)]; assumption))
          ((refine step_append_lies _ (by rfl) _ _ _ (by rfl) w.heap.size 9 i0 _ 1 16 Tryd.underlying22 hi hz0 hz1 hz2 rfl (by omega) u3 k (sc (fewL ss k)) (by rfl) ((hown.alloc _).drew)
              ⟨wr.heap.size, 0, none⟩ 1 1 [.string (f.extract 0 20)] (by rfl) (by rfl) (World.news_of_block (cs := #[.string (f.extract 0 20)]) (t := 9) (fr := (0, 0)) (heap_alloc_new wr _)) (by simp [Value.oneCell'])
              (by omega) (by unfold maxLen; omega) (by omega) (by simp; omega) (wr.heap.size + 1) (by simp) ?_; intro gg cp w3 hown3 hgrow hat hlt3))
        have hbel3 : Below w.heap.size w w3 := ((hbel.alloc hbel.size (.cells #[.string (f.extract 0 20)] 9)).drew).grown hgrow (by simp; omega) (fun j hj => (hown.lt j hj).1)
        have hown4 : w3.ownsRow w.heap.size 9 1 (.slice (some ⟨gg, 0, none⟩) (k + 1) cp) (k + 1) (sc (fewL ss (k + 1))) := by rw [SN.out, sc_append]; exact hown3
        clear hown3 hgrow hown hbel
        go_wp2
        go_roundw
        case rel => exact ⟨k + 1, by omega, by omega, by go_num, hown4, hbel3⟩
        case measure => simp [intOf]; omega
    · have h1 := fewL_size ss k
      have h2 := fewL_length ss k (by have := HL.out; omega)
      generalize fewL ss k = l at hown h1 h2
      have H1 : Hid (∀ s ∈ l, s.size ≤ 20) := h1
      have H2 : Hid (l.length = k) := h2
      clear h1 h2
      rcases (by omega : (len ≤ k) ∨ (k < len ∧ 20 ≤ k)) with hx | ⟨hx, hy⟩
      all_goals
        clear hgo
        go_wp2
        go_ret
        exact ⟨_, k, l, rfl, hk20, H2.out, H1.out, hown, hbel⟩

end Go.Proofs.YtcgnhkpclpecgaaDoor
