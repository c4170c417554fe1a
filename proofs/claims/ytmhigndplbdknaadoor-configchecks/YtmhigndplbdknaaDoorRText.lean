/-
  What the document's Text answers, as a contract: the config's text; it turns nothing that was there. Conditions: a config has 15 numbers, each of which an int holds.
-/
import Derived.Test.YtmhigndplbdknaaDoorDigits
namespace Go.Proofs.YtmhigndplbdknaaDoor
open Go.ChangeShapes Go.WideShapes Go.ChangeAt Go.RowKit

theorem join_snoc (y : List UInt8) : ∀ (x : List UInt8) (xs : List (List UInt8)), Lib.join (x :: (xs ++ [y])) [32] = Lib.join (x :: xs) [32] ++ ([32] ++ y)
  | x, [] => by
    rw [Lib.join_one]
    simp [Lib.join_cons, Lib.joinTail]
  | x, z :: xs => by
    rw [Lib.join_cons, Lib.join_cons]
    simp [Lib.joinTail]
/-- The text of the first i numbers. -/
def txtP (l : List Int) (i : Nat) : List UInt8 := Lib.join ((l.take i).map Lib.itoa) [32]
theorem txtP_one {l : List Int} (hl : l.length = 15) : txtP l 1 = Lib.itoa (l.getD 0 0) := by
  unfold txtP
  match l, hl with
  | a :: l, _ => simp [Lib.join_one]
theorem txtP_next {l : List Int} (hl : l.length = 15) {i : Nat} (h1 : 1 ≤ i) (h2 : i < 15) : txtP l (i + 1) = txtP l i ++ ([32] ++ Lib.itoa (l.getD i 0)) := by
  unfold txtP
  have e3 : l.take (i + 1) = l.take i ++ [l.getD i 0] := by
    rw [List.take_add_one]
    simp [List.getD, show i < l.length by omega]
  rw [e3, List.map_append]
  cases hq : (l.take i).map Lib.itoa with
  | nil =>
    have := congrArg List.length hq
    rw [List.length_map, List.length_take, List.length_nil] at this
    omega
  | cons x xs =>
    rw [List.cons_append]
    exact join_snoc _ x xs
theorem txtP_all {l : List Int} (hl : l.length = 15) : txtP l 15 = txt l := by
  unfold txtP txt
  rw [List.take_of_length_le (by omega)]
theorem txtP_len {l : List Int} (hl : l.length = 15) (hk : ok64 l) : ∀ i : Nat, 1 ≤ i → i ≤ 15 → (txtP l i).length ≤ 22 * i
  | 0, h, _ => by omega
  | 1, _, _ => by
    rw [txtP_one hl]
    have := ok64_get hk 0 (by omega)
    have := itoa_le (l.getD 0 0) this.1 this.2
    omega
  | i + 2, _, h => by
    have ih := txtP_len hl hk (i + 1) (by omega) (by omega)
    rw [txtP_next hl (by omega) (by omega)]
    have := ok64_get hk (i + 1) (by omega)
    have := itoa_le (l.getD (i + 1) 0) this.1 this.2
    rw [List.length_append, List.length_append, List.length_singleton]
    omega

set_option maxRecDepth 100000 in
set_option maxHeartbeats 1000000 in
theorem rtext_any (l : List Int) (hl : l.length = 15) (hk : ok64 l) (w : World) :
    Calls Tryd.prog 15 #[.agg (cc l)] w fun e w' => e = .returned (.string (mk (txt l))) ∧ Below w.heap.size w w' := by
  have HA : Hid ((w.alloc (.cells (cc l) 23)).heap[w.heap.size]? = some (.cells (cc l) 23 (0, 0))) := heap_alloc_new _ _
  have HK := Hid.mk' hk
  clear hk
  go_enter Tryd.func15, Tryd.ntmps15
  go_wp2_with (first
    | (refine wl_load (t := 23) (fr := (0, 0)) hl rfl _ rfl rfl ?_ ?_; exact HA.out))
  refine (list_any l hl _).mono ?_
  rintro e w2 ⟨gl, rfl, hgl, hG, hb2⟩
  have H2 : Hid (w2.heap[gl]? = some (.cells (cc l) 3 (0, 0)) ∧ Below w.heap.size w w2) := ⟨hG, ((Below.refl _ _).alloc (Nat.le_refl _) _).trans (hb2.mono (by simp))⟩
  have x0 : w2.cell? ⟨gl, 0, none⟩ = some (.int .i64 (l.getD 0 0)) := by rw [cell_of_row _ _ _ _ _ _ hG, cc_get l 0 (by omega)]
  have hd := digits_any (l.getD 0 0) (ok64_get HK.out 0 (by omega)).1 (ok64_get HK.out 0 (by omega)).2 w2
  rw [← txtP_one hl] at hd
  generalize l.getD 0 0 = X0 at *
  clear hgl hG hb2 HA
  go_wp2_with fail
  refine hd.mono ?_
  rintro e w3 ⟨rfl, q3, rfl⟩
  clear hd x0
  go_wp2
  go_loopw [4, 5] (fun v i wr => ∃ k : Nat, 1 ≤ k ∧ k ≤ 15 ∧ v = .string (mk (txtP l k)) ∧ i = .int .i64 k ∧ wr.heap = w2.heap ∧ Below w.heap.size w wr) (fun _ i _ => 15 - (intOf i).toNat)
  case atStart => exact ⟨1, by omega, by omega, rfl, rfl, rfl, below_drewN H2.out.2 _⟩
  case round =>
    obtain ⟨k, hk1, hk2, rfl, rfl, hh, hb⟩ := hrel
    by_cases hc : k < 15
    · have x1 : wr.cell? ⟨gl, k, none⟩ = some (.int .i64 (l.getD k 0)) := by
        rw [cell_of_heap hh, cell_of_row _ _ _ _ _ _ H2.out.1, cc_get l k (by omega)]
      have hd := digits_any (l.getD k 0) (ok64_get HK.out k (by omega)).1 (ok64_get HK.out k (by omega)).2 wr
      have HN : Hid (mk (txtP l k) ++ (⟨#[32]⟩ ++ mk (Lib.itoa (l.getD k 0))) = mk (txtP l (k + 1))) := by
        rw [txtP_next hl hk1 hc, ← mk_append, ← mk_append]
        rfl
      have s1 : (mk (txtP l k)).size ≤ 400 := by
        rw [mk_size]
        have := txtP_len hl HK.out k hk1 hk2
        omega
      have s2 : (mk (Lib.itoa (l.getD k 0))).size ≤ 21 := by
        rw [mk_size]
        exact itoa_le _ (ok64_get HK.out k (by omega)).1 (ok64_get HK.out k (by omega)).2
      have HH : Hid (wr.heap = w2.heap ∧ Below w.heap.size w wr) := ⟨hh, hb⟩
      clear hh hb
      generalize mk (Lib.itoa (l.getD k 0)) = T at *
      generalize l.getD k 0 = X at *
      generalize mk (txtP l k) = S at *
      have hk0 : (k : Int) < 15 := by omega
      go_wp2_with fail
      refine hd.mono ?_
      rintro e w4 ⟨rfl, q4, rfl⟩
      clear hd x1
      go_wp2
      exact ⟨⟨k + 1, by omega, by omega, by rw [HN.out], by simp, HH.out.1, below_drewN HH.out.2 _⟩, by simp [intOf]; omega⟩
    · obtain rfl : k = 15 := by omega
      rw [txtP_all hl]
      go_wp2
      go_ret
      exact ⟨rfl, hb⟩

end Go.Proofs.YtmhigndplbdknaaDoor
