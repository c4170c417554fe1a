/-
  What Expire does, of nil too. Conditions: the queue lies where it is said to lie.
-/
import Derived.Test.YtcndgcfdopjjfaaIds
namespace Go.Proofs.Ytcndgcfdopjjfaa
open Go.ChangeShapes Go.WideShapes Go.ChangeAt Go.RowKit

/-- It came too long ago. -/
def lateB (now wait : Int) (p : Wt) : Bool := past now (add p.2 wait)
/-- The ids of those that came too long ago. -/
def lates (now wait : Int) (L : List Wt) : List Int := (L.filter (lateB now wait)).map Prod.fst
theorem lates_snoc (now wait : Int) (L : List Wt) (p : Wt) : lates now wait (L ++ [p]) = lates now wait L ++ (if lateB now wait p then [p.1] else []) := by
  unfold lates
  rw [List.filter_append, List.map_append]
  by_cases h : lateB now wait p = true <;> simp [h]
theorem lates_len (now wait : Int) (L : List Wt) : (lates now wait L).length ≤ L.length := by
  unfold lates
  rw [List.length_map]
  exact List.length_filter_le _ _

theorem expire_nil (now wait : Int) (w : World) : Calls Try.prog 21 #[.pointer none, .int .i64 now, .int .i64 wait] w fun e w' => e = .returned (.slice none 0 0) ∧ w' = w := by
  go_enter Try.func21, Try.ntmps21
  go_wp2
  go_ret
  exact ⟨rfl, rfl⟩

theorem below_grown {w w1 w2 : World} {B t s n : Nat} {v : Value} {cs : List Value} (hown : w1.ownsRow B t s v n cs) (hg : w1.grownBy w2 v.ownBlock) (hb : Below B w w1) (hB : B ≤ w.heap.size) : Below B w w2 := by
  refine hb.trans ⟨hg.os, hg.tape, hg.output, hg.size, fun k hk => hg.block k (Nat.lt_of_lt_of_le hk (Nat.le_trans hB hb.size)) (fun e => ?_)⟩
  have := (hown.lt k e.symm).1
  omega

set_option maxHeartbeats 1000000 in
set_option maxRecDepth 100000 in
theorem expire_w (w : World) (A : Nat → Prop) (g R : Nat) (L : List Wt) (now wait : Int) (h : QAt w A g R L) :
    Calls Try.prog 21 #[.pointer (some ⟨g, 0, none⟩), .int .i64 now, .int .i64 wait] w fun e w' => ∃ a cap, e = .returned (.slice a (lates now wait L).length cap) ∧ IntsAt w' a (lates now wait L).length cap (lates now wait L) ∧ QAt w' A g R (without (lates now wait L) L) ∧ Keep A w w' := by
  have hle16 := h.le
  have hm := h.max
  have hL : L.length ≤ 16 := by omega
  obtain ⟨a, cap, c0⟩ := h.q.c0
  have HR : Hid (0 < L.length → ∃ b, a = some ⟨b, 0, none⟩ ∧ L.length ≤ cap ∧ cap ≤ maxLen ∧ ∀ i, i < L.length → w.cell? ⟨b, i * 2, none⟩ = some (.int .i64 (nthW L i).1) ∧ w.cell? ⟨b, i * 2 + 1, none⟩ = some (.int .i64 (nthW L i).2)) := fun h0 => h.q.row c0 h0
  have hgl := h.lt
  have HQ : Hid (QAt w A g R L) := h
  generalize hn : L.length = n at *
  clear h
  go_enter Try.func21, Try.ntmps21
  go_wp2
  go_loopw [7, 17] (fun v7 v17 wr => ∃ i : Nat, v17 = .int .i64 i ∧ i ≤ n ∧ wr.ownsRow w.heap.size 3 1 v7 (lates now wait (L.take i)).length (ic (lates now wait (L.take i))) ∧ Below w.heap.size w wr) (fun _ v17 _ => n + 1 - (intOf v17).toNat)
  case atStart => exact ⟨0, rfl, Nat.zero_le _, ⟨rfl, .inl ⟨rfl, rfl⟩⟩, Below.refl _ _⟩
  case round =>
    obtain ⟨i, rfl, hi, hown, hbl⟩ := hrel
    by_cases hin : i < n
    · obtain ⟨b, rfl, hcp1, hcp2, hcell⟩ := HR.out (by omega)
      have hx0 := hcell i hin
      have hx := (hbl.cell (p := ⟨b, i * 2, none⟩) (World.block_lt_of_cell? w _ hx0.1)).trans hx0.1
      have hy := (hbl.cell (p := ⟨b, i * 2 + 1, none⟩) (World.block_lt_of_cell? w _ hx0.2)).trans hx0.2
      unfold maxLen at hcp2
      have hsn := lates_snoc now wait (L.take i) (nthW L i)
      rw [← take_snoc (by omega)] at hsn
      have hlat : lateB now wait (nthW L i) = past now (add (nthW L i).2 wait) := rfl
      rw [hlat] at hsn
      generalize nthW L i = p at *
      have HO : Hid (wr.ownsRow w.heap.size 3 1 u7 (lates now wait (L.take i)).length (ic (lates now wait (L.take i)))) := hown
      have HB : Hid (Below w.heap.size w wr) := hbl
      have hsz := hbl.size
      have hll := lates_len now wait (L.take i)
      rw [List.length_take] at hll
      clear hcell hx0 hlat hown hbl
      have ha := add_any p.2 wait
      have hpa := past_any now (add p.2 wait)
      generalize hpb : past now (add p.2 wait) = pb at *
      cases pb with
      | false =>
        rw [if_neg (by simp), List.append_nil] at hsn
        go_wp2_with (first
          | (go_at_call 36; refine (ha _).mono ?_; rintro e w' ⟨rfl, hw'⟩; subst w')
          | (go_at_call 35; refine (hpa _).mono ?_; rintro e w' ⟨rfl, hw'⟩; subst w'))
        refine ⟨⟨i + 1, by simp, by omega, ?_, ?_⟩, by simp [intOf]; omega⟩
        · rw [hsn]; exact HO.out.alloc _
        · exact HB.out.alloc hsz _
      | true =>
        rw [if_pos rfl] at hsn
        have ho2 := (HO.out.alloc (.cells #[.int .i64 p.1, .int .i64 p.2] 66)).alloc (.cells #[.int .i64 p.1] 3)
        have hone := one_at (wr.alloc (.cells #[.int .i64 p.1, .int .i64 p.2] 66)) p.1
        rw [World.size_alloc] at hone
        go_wp2_with (first
          | (go_at_call 36; refine (ha _).mono ?_; rintro e w' ⟨rfl, hw'⟩; subst w')
          | (go_at_call 35; refine (hpa _).mono ?_; rintro e w' ⟨rfl, hw'⟩; subst w')
          | (at_builtin; refine wpList_ints _ rfl _ _ rfl w.heap.size u7 (lates now wait (L.take i)).length (lates now wait (L.take i)) [p.1] _ rfl ho2 _ 1 1 rfl hone (fun h => by cases h) (by omega) (by simp; omega) hsn.symm _ rfl ?_; intro v' w' q1 q2 q3))
        refine ⟨⟨i + 1, by simp, by omega, ?_, ?_⟩, by simp [intOf]; omega⟩
        · rw [hsn] at q1 ⊢
          rw [List.length_append]
          exact q1
        · exact below_grown ho2 q2 ((HB.out.alloc hsz _).alloc (by simp; omega) _) (Nat.le_refl _)
    · obtain rfl : n = i := by omega
      have e5 : L.take n = L := by rw [← hn]; exact List.take_length
      rw [e5] at hown
      obtain ⟨a7, cp7, rfl, hI7, _, hbk⟩ := owns_ints hown
      have hsz := hbl.size
      have hq7 : QIn wr (fun k => A k ∨ (w.heap.size ≤ k ∧ k < wr.heap.size)) g R (R - L.length) L :=
        HQ.out.q.keep (keep_below hbl) (fun k hk => hk.imp id (fun e => e.1)) (fun k hk => by
          rcases hk with hk | hk
          · have := HQ.out.q.guard k hk
            omega
          · exact hk.2)
      have hA7 : ∀ x, a7 = some x → (A x.block ∨ (w.heap.size ≤ x.block ∧ x.block < wr.heap.size)) := fun x hx => .inr ⟨(hbk x hx).2, (hown.lt _ (hbk x hx).1).2⟩
      have ht7 := takeOut_w wr _ g R _ L a7 _ cp7 _ hq7 hI7 hA7 (by omega)
      have HE : Hid (∀ w', QIn w' (fun k => A k ∨ (w.heap.size ≤ k ∧ k < wr.heap.size)) g R (R - L.length + (L.length - (without (lates now wait L) L).length)) (without (lates now wait L) L) → Keep (fun k => A k ∨ (w.heap.size ≤ k ∧ k < wr.heap.size)) wr w' →
          IntsAt w' a7 (lates now wait L).length cp7 (lates now wait L) ∧ QAt w' A g R (without (lates now wait L) L) ∧ Keep A w w') := by
        intro w' y1 y2
        refine ⟨hI7.keep y2 hA7, QAt.taken (y1.keep (Keep.refl _ w') (fun k hk => .inl (.inl hk)) (fun k hk => ?_)) (by omega) hm, (keep_below hbl).trans (y2.mono (fun k _ hk => .inl hk))⟩
        have := HQ.out.q.guard k hk
        have := y2.size
        omega
      clear hq7 hA7 hbl hown hI7 hbk
      go_wp2_with (first | (go_at_call 32; refine ht7.mono ?_; rintro e w' ⟨rfl, y1, y2⟩))
      go_ret
      exact ⟨_, _, rfl, HE.out _ y1 y2⟩

end Go.Proofs.Ytcndgcfdopjjfaa
