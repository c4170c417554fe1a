/-
  What top does: it tells a height below which no idle connection's is greater. Conditions: the map lies where it is said to lie.
-/
import Derived.Test.YtedbiaopbfejfaaNew
namespace Go.Proofs.Ytedbiaopbfejfaa
open Go.ChangeShapes Go.WideShapes Go.ChangeAt Go.RowKit Go.Maps

/-- An entry that comes is a connection's. -/
theorem Tells.entry {D : DataW Unit} {s : St} {cn : Int → Int × Int} {K : Nat} (h : Tells D s cn K) {x : Int} {p : Int × Int} {kl : Lit} {y : DataW Unit × List MemPlace} (hk : keyOf Try.prog 3 (.int .i64 x) = some kl) (hv : connElem (cv p) = some y) (hat : ∀ zd, D.atKey kl zd = y.1) :
    kl = .int .i64 x ∧ x ∈ s.ids ∧ cn x = p := by
  obtain ⟨x', e, rfl, _⟩ := Maps.keyOf_int_inv Try.underlying3 hk
  obtain rfl : x = x' := by simpa using e
  rw [connElem_mk] at hv
  obtain rfl : (cd p, []) = y := by simpa using hv
  have hx : x ∈ s.ids := by
    refine Decidable.byContradiction fun hn => ?_
    have h1 := h.none x hn
    rw [Maps.has_true_of_atKey hat] at h1
    simp at h1
  refine ⟨rfl, hx, cd_inj ?_⟩
  rw [← (h.has x hx).2 .nil]
  exact hat .nil

theorem Tells.height {D : DataW Unit} {s : St} {cn : Int → Int × Int} {K : Nat} (h : Tells D s cn K) {x : Int} (hx : x ∈ s.ids) : 0 ≤ (cn x).2 ∧ (cn x).2 ≤ K := by
  rcases mem_ids.1 hx with h1 | h1 | h1
  · rw [h.inv.mkg x h1]
    show (0 : Int) ≤ 0 ∧ (0 : Int) ≤ K
    omega
  · have := h.inv.idl x h1
    omega
  · rw [h.inv.bsy x h1]
    show (0 : Int) ≤ 0 ∧ (0 : Int) ≤ K
    omega

set_option maxRecDepth 100000 in
theorem top_any (w : World) (g gm n : Nat) (mc : Value) (D : DataW Unit) (s : St) (cn : Int → Int × Int) (K : Nat) (hb : w.heap[g]? = some (.cells #[.map (some gm), mc] 59 (0, 0))) (hm : w.ownsMap Try.prog 3 connElem gm n D) (ht : Tells D s cn K) (hK : K ≤ 1000000) :
    Calls Try.prog 44 #[.pointer (some ⟨g, 0, none⟩)] w fun e w' => ∃ t : Int, e = .returned (.int .i64 t) ∧ 0 ≤ t ∧ t ≤ K ∧ (∀ y ∈ s.I, (cn y).2 ≤ t) ∧ Below w.heap.size w w' := by
  obtain ⟨c0, c1, hl⟩ := blk2 hb
  have HT : Hid (Tells D s cn K) := ht
  clear hb ht
  go_enter Try.func44, Try.ntmps44
  go_wp2_with (first | (at_range; refine wpList_range_own _ rfl _ 56 rfl 3 63 keyed3 Try.underlying56 _ gm n D rfl hm ?_; intro w0 hrg0 hg0 hs0))
  go_frame
  have hb0 : Below w.heap.size w w0 := ⟨hg0.os, hg0.tape, hg0.output, hg0.size, fun k hk => hg0.block k hk (by simp)⟩
  clear hg0 hs0 c0 c1 hm
  go_loopw [3] (fun v3 wr => ∃ left cnt t, v3 = .int .i64 t ∧ 0 ≤ t ∧ t ≤ K ∧ (∀ y ∈ s.ids, left (.int .i64 y) = false → (cn y).2 ≤ t) ∧ wr.ranges Try.prog 3 connElem gm w.heap.size n D left cnt ∧ Below w.heap.size w wr) (fun _ wr => wr.rangeLeft gm w.heap.size)
  case atStart =>
    refine ⟨_, _, 0, rfl, Int.le_refl _, by omega, fun y hy h0 => ?_, hrg0, hb0⟩
    rw [(HT.out.has y hy).1] at h0
    simp at h0
  case round =>
    clear hrg0 hb0
    obtain ⟨left, cnt, t, rfl, h0, h1, h2, hrg, hbl⟩ := hrel
    have H2 : Hid (∀ y ∈ s.ids, left (.int .i64 y) = false → (cn y).2 ≤ t) := h2
    clear h2
    go_wp2_with (first | (at_next; refine wpList_next_ranges _ rfl _ rfl 3 keyed3 connElem (Value.int .i64) cv (fun key kl hkey => by obtain ⟨x, hx, _⟩ := Maps.keyOf_int_inv Try.underlying3 hkey; exact ⟨x, hx⟩) (fun v y hv => by obtain ⟨p, hp, _⟩ := connElem_inv hv; exact ⟨p, hp⟩) gm w.heap.size n D left cnt rfl hrg ?_ ?_))
    · intro _ hl0
      have HF : Hid (∀ y ∈ s.I, (cn y).2 ≤ t) := fun y hy => H2.out y (mem_ids.2 (.inr (.inl hy))) (hl0 _)
      clear H2 hl0
      go_wp2
      go_ret
      exact ⟨t, rfl, h0, h1, HF.out, hbl⟩
    · intro x pa pb kl yd yp w1 cnt1 hkey hlk hv hat hrg1 hlt hg1 hs1 hen
      obtain ⟨rfl, hx, hcn⟩ := HT.out.entry (p := (pa, pb)) hkey hv hat
      have hh := HT.out.height hx
      rw [hcn] at hh
      obtain ⟨e1, e2⟩ : 0 ≤ pb ∧ pb ≤ K := hh
      have hb1 : Below w.heap.size w w1 := hbl.grown hg1 hbl.size (fun j hj => by cases hj; exact Nat.le_refl _)
      have hsz := hb1.size
      have HN : Hid (∀ T, t ≤ T → pb ≤ T → ∀ y ∈ s.ids, (left (.int .i64 y) && !(Lit.int .i64 y).sameKey (.int .i64 x)) = false → (cn y).2 ≤ T) := by
        intro T hT1 hT2 y hy hly
        by_cases e : y = x
        · rw [e, hcn]; exact hT2
        · rw [Maps.sameKey_ne (key_ne e)] at hly
          simp at hly
          exact Int.le_trans (H2.out y hy hly) hT1
      have hrg2 := hrg1.alloc (.cells #[.int .i64 pa, .int .i64 pb] 63)
      have HL : Hid (wr.rangeLeft gm w.heap.size = cnt ∧ (w1.alloc (.cells #[.int .i64 pa, .int .i64 pb] 63)).rangeLeft gm w.heap.size = cnt1 ∧ cnt1 < cnt) := ⟨hrg.left_eq, hrg2.left_eq, hlt⟩
      have HR : Hid ((w1.alloc (.cells #[.int .i64 pa, .int .i64 pb] 63)).ranges Try.prog 3 connElem gm w.heap.size n D (fun z => left z && !z.sameKey (.int .i64 x)) cnt1) := hrg2
      have HB : Hid (Below w.heap.size w (w1.alloc (.cells #[.int .i64 pa, .int .i64 pb] 63))) := hb1.alloc hsz _
      simp only [cv] at hen
      clear hkey hlk hv hat hlt hg1 hs1 hrg hrg1 hrg2 hbl hb1 H2 hx hcn
      obtain ⟨T, hT⟩ : ∃ T, (if t < pb then pb else t) = T := ⟨_, rfl⟩
      have hT1 : t ≤ T := by split at hT <;> omega
      have hT2 : pb ≤ T := by split at hT <;> omega
      have hT3 : T ≤ K := by split at hT <;> omega
      go_wp2
      refine ⟨⟨fun z => left z && !z.sameKey (.int .i64 x), cnt1, T, rfl, by omega, hT3, HN.out T hT1 hT2, HR.out, HB.out⟩, ?_⟩
      rw [HL.out.1, HL.out.2.1]
      exact HL.out.2.2

end Go.Proofs.Ytedbiaopbfejfaa
