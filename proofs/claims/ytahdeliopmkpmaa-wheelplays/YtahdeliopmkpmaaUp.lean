/-
  What up of container/heap does over an order: the entry at the place goes up till the heap is one. Conditions: the order lies behind the pointer; all but that place are in order.
-/
import Derived.Test.YtahdeliopmkpmaaMeth
namespace Go.Proofs.Ytahdeliopmkpmaa
open Go.ChangeShapes Go.WideShapes Go.ChangeAt Go.RowKit

theorem Keep.cell {A : Nat → Prop} {w w' : World} (h : Keep A w w') {a : Addr} {v : Value} (hc : w.cell? a = some v) (hA : A a.block) : w'.cell? a = some v :=
  (World.cell?_of_block (h.block a.block (World.block_lt_of_cell? w a hc) hA)).trans hc

theorem half (j : Nat) (h : 0 < j) : ((j : Int) - 1).tdiv 2 = (((j - 1) / 2 : Nat) : Int) := by
  obtain ⟨k, rfl⟩ : ∃ k, j = k + 1 := ⟨j - 1, by omega⟩
  rw [show ((k + 1 : Nat) : Int) - 1 = (k : Int) by omega]
  rw [show (k + 1 - 1) / 2 = k / 2 by omega]
  rfl

set_option maxHeartbeats 1000000 in
set_option maxRecDepth 100000 in
theorem up_any (A : Nat → Prop) (g : Nat) (ov : Value) (L : List Ent) (n j : Nat) (w : World) (h : OIn w A ov L) (hg : A g) (hc : w.cell? ⟨g, 1, none⟩ = some ov) (hn : n ≤ L.length) (hl : L.length ≤ 1000) (hj : j < n) (hu : UpI n L j) :
    Calls Try.prog 44 #[.iface 68 (.pointer (some ⟨g, 1, none⟩)), .int .i64 j] w fun e w' => e = .returned (.tuple #[]) ∧
      ∃ L', OIn w' A ov L' ∧ L'.Perm L ∧ L'.length = L.length ∧ HeapN n L' ∧ (∀ k, n ≤ k → nth L' k = nth L k) ∧ Keep A w w' := by
  obtain ⟨Lx, hLx⟩ : ∃ Lx, Lx = L.length := ⟨_, rfl⟩
  have HL : Hid (Lx = L.length) := hLx
  rw [← hLx] at hn hl ⊢
  clear hLx
  go_enter Try.func44, Try.ntmps44
  go_wp2
  go_loopw [1] (fun vj wr => ∃ (j' : Nat) (L' : List Ent), vj = .int .i64 j' ∧ j' < n ∧ OIn wr A ov L' ∧ L'.Perm L ∧ L'.length = Lx ∧ UpI n L' j' ∧ (∀ k, n ≤ k → nth L' k = nth L k) ∧ Keep A w wr) (fun vj _ => (intOf vj).toNat)
  case atStart => exact ⟨j, L, rfl, hj, h, List.Perm.refl _, HL.out.symm, hu, fun _ _ => rfl, Keep.refl _ _⟩
  case round =>
    obtain ⟨j', L', rfl, hj', ho, hp, hlen, hui, hk, hkeep⟩ := hrel
    have mL := m_less (hkeep.cell hc hg)
    have mS := fun q => m_swap ((hkeep.drewN q).cell hc hg)
    by_cases j0 : j' = 0
    · subst j0
      clear mL mS
      go_wp2
      go_end0
      exact ⟨rfl, L', ho, hp, hlen, hui.done0, hk, hkeep⟩
    · have hd := half j' (by omega)
      have hstep := fun h2 => hui.step (by omega) hj' (by omega) h2
      have hdone := fun h2 => hui.done h2
      have hq : (j' - 1) / 2 < j' := by omega
      generalize (j' - 1) / 2 = p at hd hq hstep hdone
      have hb : ((p : Int) == (j' : Int)) = false := by simp; omega
      cases hlt : ltE (nth L' j') (nth L' p) with
      | false =>
        go_wp2_with (first | (go_at_call 96; refine (less_any A ov L' _ _ _ ho (by omega) (by omega)).mono ?_; rintro e w' ⟨rfl, q, rfl⟩))
        go_end0
        exact ⟨rfl, L', ho.drewN q, hp, hlen, hdone hlt, hk, hkeep.drewN q⟩
      | true =>
        have hsp := swp_perm (L := L') (i := p) (j := j') (by omega) (by omega)
        have hsl := swp_length L' p j'
        have hnth := nth_swp (L := L') (i := p) (j := j') (by omega) (by omega)
        have HN : Hid (∀ k, nth (swp L' p j') k = if k = j' then nth L' p else if k = p then nth L' j' else nth L' k) := hnth
        clear hnth
        go_wp2_with (first
          | (go_at_call 96; refine (less_any A ov L' _ _ _ ho (by omega) (by omega)).mono ?_; rintro e w' ⟨rfl, q, rfl⟩; have mS := mS q)
          | (go_at_call 97; refine (swap_any A ov L' _ _ _ (ho.drewN _) (by omega) (by omega)).mono ?_; rintro e w2 ⟨rfl, ho2, hk2⟩))
        refine ⟨⟨p, swp L' p j', rfl, by omega, ho2, hsp.trans hp, hsl.trans hlen, hstep hlt, fun k hk' => ?_, (hkeep.drewN _).trans hk2⟩, by simp [intOf]; omega⟩
        rw [HN.out k, if_neg (by omega), if_neg (by omega)]
        exact hk k hk'

end Go.Proofs.Ytahdeliopmkpmaa
