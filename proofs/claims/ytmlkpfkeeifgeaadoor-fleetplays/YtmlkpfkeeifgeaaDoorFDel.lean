/-
  What slices.Delete of one place of a row of hosts does: the others stay as they stand. Conditions: the row lies where it is said to lie, and the place is one of it.
-/
import Derived.Test.YtmlkpfkeeifgeaaDoorFMem
import Derived.Test.YtmlkpfkeeifgeaaDoorDel
namespace Go.Proofs.YtmlkpfkeeifgeaaDoor
open Go.ChangeShapes Go.WideShapes Go.ChangeAt Go.RowKit Go.Lib

theorem hcs_take : ∀ (L : List Hs) (i : Nat), hcs (L.take i) = (hcs L).take (i * 3)
  | [], _ => by simp [hcs]
  | p :: L, 0 => by simp [hcs]
  | p :: L, i + 1 => by
    have e : (i + 1) * 3 = i * 3 + 1 + 1 + 1 := by omega
    rw [e]
    simp [hcs, hcs_take L i]
theorem hcs_drop : ∀ (L : List Hs) (i : Nat), hcs (L.drop i) = (hcs L).drop (i * 3)
  | [], _ => by simp [hcs]
  | p :: L, 0 => by simp [hcs]
  | p :: L, i + 1 => by
    have e : (i + 1) * 3 = i * 3 + 1 + 1 + 1 := by omega
    rw [e]
    simp [hcs, hcs_drop L i]

/-- Cells are put into a block. -/
theorem putC {t : TypeId} {b : Nat} : ∀ (vs : List Value) (k : Nat) (w : World) (cur : Array Value), w.heap[b]? = some (.cells cur t (0, 0)) → k + vs.length ≤ cur.size →
    ∃ cur' : Array Value, (w.setCells b k vs).heap[b]? = some (.cells cur' t (0, 0)) ∧ cur'.size = cur.size ∧ cur'.toList = cur.toList.take k ++ vs ++ cur.toList.drop (k + vs.length)
  | [], k, w, cur, h, _ => ⟨cur, h, rfl, by simp⟩
  | v :: vs, k, w, cur, h, hl => by
    have h1 := heap_setCell_same w b k cur t v h
    obtain ⟨cur', c1, c2, c3⟩ := putC vs (k + 1) (w.setCell ⟨b, k, none⟩ v) _ h1 (by simp at hl ⊢; omega)
    refine ⟨cur', c1, by simpa using c2, ?_⟩
    rw [c3]
    have hk : k < cur.toList.length := by simp at hl ⊢; omega
    rw [Array.toList_setIfInBounds, List.take_add_one, List.take_set_of_le (Nat.le_refl _), List.getElem?_set_self hk, List.drop_set_of_lt (by omega)]
    simp
    rw [show k + 1 + vs.length = k + (vs.length + 1) by omega]

set_option maxHeartbeats 4000000 in
set_option maxRecDepth 1000000 in
theorem fdelete_any (w : World) (base b n cap i j : Nat) (L : List Hs) (ho : w.ownsRow base 97 3 (.slice (some ⟨b, 0, none⟩) n cap) n (hcs L)) (hi : i < n) (hj : i + 1 = j) :
    Calls Tryd.prog 65 #[.slice (some ⟨b, 0, none⟩) n cap, .int .i64 i, .int .i64 j] w fun e w' => e = .returned (.slice (some ⟨b, 0, none⟩) (n - 1) cap) ∧ w'.ownsRow base 97 3 (.slice (some ⟨b, 0, none⟩) (n - 1) cap) (n - 1) (hcs (L.eraseIdx i)) ∧ Keep (fun k => k ≠ b) w w' := by
  obtain ⟨i0, hi0, hz0, hz1, hz2⟩ := info_parts info97
  obtain ⟨hlen, hcase⟩ := ho
  rw [hcs_length] at hlen
  have hLl : L.length = n := by omega
  obtain ⟨cur, hbase, hg, hn, _hcap, hcs0, htake⟩ : ∃ cur : Array Value, base ≤ b ∧ w.heap[b]? = some (.cells cur 97 (0, 0)) ∧ n ≤ cap ∧ cap ≤ maxLen ∧ cur.size = cap * 3 ∧ cur.toList.take (n * 3) = hcs L := by
    rcases hcase with ⟨e1, _⟩ | ⟨g', cap', cur, e1, hb, hg, h1, h2, h3, h4⟩
    · cases e1
    · injection e1 with q1 q2 q3
      injection q1 with q1
      injection q1 with q1
      subst q1 q3
      exact ⟨cur, hb, hg, h1, h2, h3, h4⟩
  clear hcase
  have hcm := _hcap
  unfold maxLen at _hcap
  have hDl : (L.drop j).length = n - j := by rw [List.length_drop, hLl]
  have hlt : i < j := by omega
  have hjn : j ≤ n := by omega
  have hcell : ∀ o, w.cell? ⟨b, o, none⟩ = cur[o]? := fun o => by simp [World.cell?, hg]
  have hfz : ∀ o, w.frozen? ⟨b, o, none⟩ = false := fun o => by simp [World.frozen?, hg]
  have hnl : (hcs (L.drop j)).length = (n - j) * 3 := by rw [hcs_length, hDl]
  obtain ⟨A, hA, hsrc⟩ : ∃ A : Addr, (if cap = j then some (⟨b, 0, none⟩ : Addr) else some ⟨b, j * 3, none⟩) = some A ∧ Hid (∀ t u, (hcs (L.drop j))[t]? = some u → w.drew.cell? (A.add t) = some u) := by
    by_cases h : cap = j
    · refine ⟨⟨b, 0, none⟩, by simp [h], fun t u hu => ?_⟩
      have h0 : (hcs (L.drop j)).length = 0 := by omega
      rw [List.length_eq_zero_iff.1 h0] at hu
      simp at hu
    · refine ⟨⟨b, j * 3, none⟩, by simp [h], fun t u hu => ?_⟩
      rw [Addr.add_lit]
      have e1 : w.drew.cell? ⟨b, j * 3 + t, none⟩ = cur[j * 3 + t]? := hcell _
      rw [e1]
      have ht : t < (n - j) * 3 := by
        have := (List.getElem?_eq_some_iff.1 hu).1
        omega
      rw [hcs_drop, List.getElem?_drop, ← htake, List.getElem?_take_of_lt (by omega)] at hu
      simpa using hu
  have s1 : Hid ((hcs (L.drop j)).length = (n - j) * 3) := hnl
  have s2 : Hid (∀ u ∈ hcs (L.drop j), u.oneCell' = true) := hcs_one _
  have s3 : Hid (∀ t, t < (hcs (L.drop j)).length → (w.drew.cell? ⟨b, 0 + i * 3 + t, none⟩).isSome = true ∧ w.drew.frozen? ⟨b, 0 + i * 3 + t, none⟩ = false) := by
    intro t ht
    refine ⟨?_, hfz _⟩
    have e1 : w.drew.cell? ⟨b, 0 + i * 3 + t, none⟩ = cur[0 + i * 3 + t]? := hcell _
    rw [e1, Array.getElem?_eq_getElem (by omega)]
    rfl
  obtain ⟨W1, hW1⟩ : ∃ W1, W1 = w.drew.setCells b (0 + i * 3) (hcs (L.drop j)) := ⟨_, rfl⟩
  obtain ⟨cur1, g1, z1, t1⟩ := putC (t := 97) (b := b) (hcs (L.drop j)) (0 + i * 3) w.drew cur hg (by omega)
  rw [← hW1] at g1
  have hk1 : Keep (fun k => k ≠ b) w W1 := by
    rw [hW1]
    exact Keep.setMany (fun hn => hn rfl) _ _ _ (Keep.refl _ w).drew
  have hm1 : i + (n - j) = n - 1 := by omega
  have hcell1 : ∀ o, W1.cell? ⟨b, o, none⟩ = cur1[o]? := fun o => by simp [World.cell?, g1]
  have hfz1 : ∀ o, W1.frozen? ⟨b, o, none⟩ = false := fun o => by simp [World.frozen?, g1]
  have hzc : (Builtin.zeroCells (Value.agg #[.string ⟨#[]⟩, .int .i64 0, .bool false]).cells 1).toList = [.string ⟨#[]⟩, .int .i64 0, .bool false] := by kernel_rfl
  have hcl : ∀ ty, (Builtin.clear_ #[71] ty #[.slice (some ⟨b, (i + (n - j)) * 3, none⟩) (n - (i + (n - j))) (cap - (i + (n - j)))]).run Tryd.prog W1 = .ok (.tuple #[]) (W1.setCells b ((n - 1) * 3) [.string ⟨#[]⟩, .int .i64 0, .bool false]) := by
    intro ty
    rw [hm1, show n - (n - 1) = 1 by omega]
    have hst := run_storeCells_cells (P := Tryd.prog) b ((n - 1) * 3) [.string ⟨#[]⟩, .int .i64 0, .bool false] 0 W1 (fun j hj => by
      rw [hcell1, Array.getElem?_eq_getElem (by simp at hj; omega)]
      rfl) (fun j _ => hfz1 _) (by simp [Value.oneCell'])
    simp only [Nat.add_zero] at hst
    simp [Builtin.clear_, run_underlying Tryd.underlying71, hzc, hst]
  obtain ⟨cur2, g2, z2, t2⟩ := putC (t := 97) (b := b) [.string ⟨#[]⟩, .int .i64 0, .bool false] ((n - 1) * 3) W1 cur1 g1 (by simp; omega)
  have HE : Hid ((W1.setCells b ((n - 1) * 3) [.string ⟨#[]⟩, .int .i64 0, .bool false]).ownsRow base 97 3 (.slice (some ⟨b, 0, none⟩) (n - 1) cap) (n - 1) (hcs (L.eraseIdx i)) ∧ Keep (fun k => k ≠ b) w (W1.setCells b ((n - 1) * 3) [.string ⟨#[]⟩, .int .i64 0, .bool false])) := by
    refine ⟨⟨by rw [hcs_length, List.length_eraseIdx_of_lt (by omega), hLl], .inr ⟨b, cap, cur2, rfl, hbase, g2, by omega, hcm, by omega, ?_⟩⟩, Keep.setMany (fun hn => hn rfl) _ _ _ hk1⟩
    rw [t2, List.append_assoc, List.take_append_of_le_length (by simp; omega), List.take_take, Nat.min_self, t1, List.eraseIdx_eq_take_drop_succ, hj, hcs_append, hcs_take, ← htake, List.take_take, Nat.min_eq_left (by omega), Nat.zero_add]
    rw [List.take_append_of_le_length (by simp; omega)]
    apply List.take_of_length_le
    simp
    omega
  have hW : Hid (W1 = w.drew.setCells b (0 + i * 3) (hcs (L.drop j))) := hW1
  have hic : i ≤ cap := by omega
  have hjc : j ≤ cap := by omega
  have HM : Hid (i + (n - j) = n - 1) := hm1
  clear hW1 hk1 hg hm1 hj hDl hLl hcell hfz hnl g1 z1 t1 hcell1 hfz1 hzc g2 z2 t2 htake hcs0 hlen hcm hbase
  generalize hcs (L.drop j) = news at *
  go_enter Tryd.func65, Tryd.ntmps65
  go_wp2_with fail
  go_region_law (refine step_append_room rfl (.tmp 22) (.tmp 25) 71 rfl 97 i0 3 Tryd.underlying71 hi0 hz1 b 0 i cap (by simp [Act.eval, Act.put]) A (n - j) (cap - j) news (by simp [Act.eval, Act.put]) s1.out hsrc.out s2.out (by omega) s3.out ?_; rw [← hW.out])
  go_wp2
  go_ret
  exact ⟨by rw [HM.out]; rfl, HE.out⟩

end Go.Proofs.YtmlkpfkeeifgeaaDoor
