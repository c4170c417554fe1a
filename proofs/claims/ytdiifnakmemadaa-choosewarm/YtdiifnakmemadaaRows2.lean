/-
  Rows of hosts of one's own: as cells, as a list; near, few and as, each as a contract. Conditions: the slice lies where it is said to lie.
-/
import Derived.Test.YtdiifnakmemadaaMem
import Derived.Deep.RegionHeldLaw
import Derived.Deep.AppendLies
import Derived.Deep.DrawnRows
import Derived.Maps.AppendAt
namespace Go.Proofs.Ytdiifnakmemadaa
open Go.ChangeShapes Go.WideShapes Go.ChangeAt Go.RowKit

/-- Hosts as cells. -/
def hcs : List Hs → List Value
  | [] => []
  | h :: l => .int .i64 h.st :: .int .i64 h.mg :: .int .i64 h.id :: .int .i64 h.bz :: .bool h.my :: hcs l
theorem hcs_length : ∀ l, (hcs l).length = l.length * 5
  | [] => rfl
  | h :: l => by
    have := hcs_length l
    simp [hcs, this]
    omega
theorem hcs_append : ∀ l m, hcs (l ++ m) = hcs l ++ hcs m
  | [], _ => rfl
  | h :: l, m => by simp [hcs, hcs_append l m]
theorem hcs_one : ∀ l, ∀ u ∈ hcs l, u.oneCell' = true
  | [], u, h => by simp [hcs] at h
  | p :: l, u, h => by
    simp [hcs] at h
    rcases h with rfl | rfl | rfl | rfl | rfl | h
    · rfl
    · rfl
    · rfl
    · rfl
    · rfl
    · exact hcs_one l u h
theorem hcs_get : ∀ l i, i < l.length → (hcs l)[i * 5]? = some (.int .i64 (l.getD i z0).st) ∧ (hcs l)[i * 5 + 1]? = some (.int .i64 (l.getD i z0).mg) ∧ (hcs l)[i * 5 + 2]? = some (.int .i64 (l.getD i z0).id) ∧ (hcs l)[i * 5 + 3]? = some (.int .i64 (l.getD i z0).bz) ∧ (hcs l)[i * 5 + 4]? = some (.bool (l.getD i z0).my)
  | [], i, h => by simp at h
  | p :: l, 0, h => by simp [hcs]
  | p :: l, i + 1, h => by
    have := hcs_get l i (by simpa using h)
    have e1 : (i + 1) * 5 = i * 5 + 1 + 1 + 1 + 1 + 1 := by omega
    rw [e1]
    simpa [hcs] using this
theorem info43 : (Try.prog.info? 43).map (fun i => (i.zero, i.size, i.bytes)) = some (some (.agg #[.int .i64 0, .int .i64 0, .int .i64 0, .int .i64 0, .bool false]), 5, 40) := by kernel_rfl
theorem info38 : (Try.prog.info? 38).map (fun i => (i.zero, i.size, i.bytes)) = some (some (.agg #[.int .i64 0, .int .i64 0, .int .i64 0, .int .i64 0, .bool false]), 5, 40) := by kernel_rfl
theorem info3 : (Try.prog.info? 3).map (fun i => (i.zero, i.size, i.bytes)) = some (some (.int .i64 0), 1, 8) := by kernel_rfl

theorem owns_hosts {w : World} {base e n : Nat} {v : Value} {hs : List Hs} (h : w.ownsRow base e 5 v n (hcs hs)) : ∃ a cap, v = .slice a n cap ∧ HostsAt w a n cap hs ∧ (a = none → n = 0 ∧ cap = 0) ∧ (∀ x, a = some x → x = ⟨x.block, 0, none⟩ ∧ v.ownBlock = some x.block ∧ base ≤ x.block) := by
  have h0 := h
  obtain ⟨hl, hcase⟩ := h
  rw [hcs_length] at hl
  have hl2 : hs.length = n := by omega
  rcases hcase with ⟨rfl, h5⟩ | ⟨g, cap, cur, rfl, hb, hg, hn, hcap, _, _⟩
  · obtain rfl : n = 0 := h5
    exact ⟨_, _, rfl, ⟨hl2, Nat.le_refl _, Nat.zero_le _, fun j hj => absurd hj (Nat.not_lt_zero _)⟩, fun _ => ⟨rfl, rfl⟩, fun x hx => by cases hx⟩
  · refine ⟨_, _, rfl, ⟨hl2, hn, hcap, fun j hj => ⟨g, 0, rfl, (Array.getElem?_eq_some_iff.1 hg).1, ?_⟩⟩, fun h => by (cases h), fun x hx => by (cases hx; exact ⟨rfl, rfl, hb⟩)⟩
    have e0 : ∀ k, ((⟨g, 0, none⟩ : Addr).add k) = ⟨g, 0 + k, none⟩ := fun k => by unfold Addr.add; split <;> simp_all
    have hx := hcs_get hs j (by omega)
    have q0 := h0.cells (g := g) rfl (j * 5) _ hx.1
    have q1 := h0.cells (g := g) rfl (j * 5 + 1) _ hx.2.1
    have q2 := h0.cells (g := g) rfl (j * 5 + 2) _ hx.2.2.1
    have q3 := h0.cells (g := g) rfl (j * 5 + 3) _ hx.2.2.2.1
    have q4 := h0.cells (g := g) rfl (j * 5 + 4) _ hx.2.2.2.2
    rw [e0] at q0 q1 q2 q3 q4
    exact ⟨q0, q1, q2, q3, q4⟩

/-- A number within 1000. -/
def nearI (n : Int) : Int := min (max n (-1000)) 1000
theorem nearI_bd (n : Int) : -1000 ≤ nearI n ∧ nearI n ≤ 1000 := by unfold nearI; omega
def nearH (h : Hs) : Hs := ⟨h.st, nearI h.mg, nearI h.id, nearI h.bz, h.my⟩

theorem near_any (n : Int) (w : World) : Calls Try.prog 19 #[.int .i64 n] w fun e w' => e = .returned (.int .i64 (nearI n)) ∧ w' = w := by
  obtain ⟨r, hr⟩ : ∃ r, nearI n = r := ⟨_, rfl⟩
  rw [hr]
  unfold nearI at hr
  have HR := Hid.mk' hr
  clear hr
  go_enter Try.func19, Try.ntmps19
  go_wp2
  all_goals
    go_ret
    refine ⟨ret_int ?_, rfl⟩
    have := HR.out
    omega

/-- The first k, their numbers within 1000. -/
def fewL (hs : List Hs) (k : Nat) : List Hs := (hs.take k).map nearH
theorem fewL_zero (hs : List Hs) : fewL hs 0 = [] := by simp [fewL]
theorem fewL_snoc (hs : List Hs) (k : Nat) (h : k < hs.length) : fewL hs (k + 1) = fewL hs k ++ [nearH (hs.getD k z0)] := by
  unfold fewL
  rw [List.take_succ_eq_append_getElem h, List.map_append]
  simp [List.getD, h]
theorem fewL_length (hs : List Hs) (k : Nat) (h : k ≤ hs.length) : (fewL hs k).length = k := by
  unfold fewL
  rw [List.length_map, List.length_take]
  omega

/-- All numbers are within 1000. -/
def Small (hs : List Hs) : Prop := ∀ h ∈ hs, -1000 ≤ h.mg ∧ h.mg ≤ 1000 ∧ -1000 ≤ h.id ∧ h.id ≤ 1000 ∧ -1000 ≤ h.bz ∧ h.bz ≤ 1000
theorem fewL_small (hs : List Hs) (k : Nat) : Small (fewL hs k) := by
  intro s hs1
  obtain ⟨t, _, rfl⟩ := List.mem_map.1 hs1
  have h1 := nearI_bd t.mg
  have h2 := nearI_bd t.id
  have h3 := nearI_bd t.bz
  exact ⟨h1.1, h1.2, h2.1, h2.2, h3.1, h3.2⟩

attribute [local go_sem ↓] Go.wp_at_zero Go.wp_at_succ
set_option maxHeartbeats 2000000 in
set_option maxRecDepth 100000 in
theorem few_any (a : Option Addr) (len cap : Nat) (hs : List Hs) (w : World) (h : HostsAt w a len cap hs) :
    Calls Try.prog 8 #[.slice a len cap] w fun e w' => ∃ v n l, e = .returned v ∧ n ≤ 20 ∧ l.length = n ∧ Small l ∧ w'.ownsRow w.heap.size 43 5 v n (hcs l) ∧ Below w.heap.size w w' := by
  have hcap := h.hcap
  have hle := h.hle
  unfold maxLen at hcap
  obtain ⟨i0, hi, hz0, hz1, hz2⟩ := info_parts info43
  have H : Hid (HostsAt w a len cap hs) := h
  have HL : Hid (hs.length = len) := h.hlen
  clear h
  go_enter Try.func8, Try.ntmps8
  go_wp2
  go_loopw [3, 4] (fun v i wr => ∃ k : Nat, k ≤ len ∧ k ≤ 20 ∧ i = .int .i64 k ∧ wr.ownsRow w.heap.size 43 5 v k (hcs (fewL hs k)) ∧ Below w.heap.size w wr)
    (fun _ i _ => 20 - (intOf i).toNat)
  case atStart => exact ⟨0, Nat.zero_le _, Nat.zero_le _, rfl, by rw [fewL_zero]; exact World.ownsRow_nil _ _ _ _, Below.refl _ _⟩
  case round =>
    obtain ⟨k, hk, hk20, rfl, hown, hbel⟩ := hrel
    by_cases hgo : k < len ∧ k < 20
    · obtain ⟨hlt, h20⟩ := hgo
      obtain ⟨b, off, rfl, hb, c0, c1, c2, c3, c4⟩ := (H.out.below hbel).rd k hlt
      have hkl : k < hs.length := by have := HL.out; omega
      have SN : Hid (fewL hs (k + 1) = fewL hs k ++ [nearH (hs.getD k z0)]) := fewL_snoc hs k hkl
      generalize hs.getD k z0 = h at *
      obtain ⟨s, m, d, bz, y⟩ := h
      simp only [] at c0 c1 c2 c3 c4
      have hkn : (k : Int) < (len : Int) := by omega
      have hk0 : (0 : Int) ≤ (k : Int) := Int.natCast_nonneg _
      have HSN : Hid (hcs (fewL hs (k + 1)) = hcs (fewL hs k) ++ [.int .i64 s, .int .i64 (nearI m), .int .i64 (nearI d), .int .i64 (nearI bz), .bool y]) := by
        show _ = _
        rw [SN.out, hcs_append]
        rfl
      clear SN
      obtain ⟨W, hW⟩ : ∃ W, W = wr.alloc (.cells #[.int .i64 s, .int .i64 m, .int .i64 d, .int .i64 bz, .bool y] 43) := ⟨_, rfl⟩
      have hbW : Below wr.heap.size wr W := by rw [hW]; exact (Below.refl _ wr).alloc (Nat.le_refl _) _
      have hgl : wr.heap.size < W.heap.size := by rw [hW]; simp
      have x0 : W.cell? ⟨wr.heap.size, 0, none⟩ = some (.int .i64 s) := by rw [hW]; simp [go_sem]
      have x1 : W.cell? ⟨wr.heap.size, 1, none⟩ = some (.int .i64 m) := by rw [hW]; simp [go_sem]
      have x2 : W.cell? ⟨wr.heap.size, 2, none⟩ = some (.int .i64 d) := by rw [hW]; simp [go_sem]
      have x3 : W.cell? ⟨wr.heap.size, 3, none⟩ = some (.int .i64 bz) := by rw [hW]; simp [go_sem]
      have x4 : W.cell? ⟨wr.heap.size, 4, none⟩ = some (.bool y) := by rw [hW]; simp [go_sem]
      have hownW := owns_below hown hbW
      have hbelW := below_trans hbel hbW
      have hne : u3.ownBlock ≠ some wr.heap.size := fun e => by have := (hown.lt _ e).2; omega
      have hwW := hbelW.size
      clear hown hbel
      go_wp2_with fail
      rw [← hW]
      clear hW
      generalize wr.heap.size = g at *
      clear c0 c1 c2 c3 c4 hbW
      go_region_held_law (fun w' => w'.cell? ⟨g, 0, none⟩ = some (.int .i64 s) ∧ w'.cell? ⟨g, 1, none⟩ = some (.int .i64 m) ∧ w'.cell? ⟨g, 2, none⟩ = some (.int .i64 d) ∧ w'.cell? ⟨g, 3, none⟩ = some (.int .i64 bz) ∧ w'.cell? ⟨g, 4, none⟩ = some (.bool y))
        (first
          | go_keep
          | (rw [hgrow.cell_far _ (by simp; omega) (Ne.symm hne), hgrow.cell_far _ (by simp; omega) (Ne.symm hne), hgrow.cell_far _ (by simp; omega) (Ne.symm hne), hgrow.cell_far _ (by simp; omega) (Ne.symm hne), hgrow.cell_far _ (by simp; omega) (Ne.symm hne)]; assumption))
        (first
          | (go_at_call 19; refine (near_any _ _).mono ?_; rintro e w' ⟨rfl, rfl⟩)
          | (refine step_append_lies _ (by rfl) _ _ _ (by rfl) w.heap.size 43 i0 _ 5 40 Try.underlying22 hi hz0 hz1 hz2 rfl (by omega) u3 k (hcs (fewL hs k)) (by rfl) ((hownW.alloc _).drew) ⟨W.heap.size, 0, none⟩ 1 1 [.int .i64 s, .int .i64 (nearI m), .int .i64 (nearI d), .int .i64 (nearI bz), .bool y] (by rfl) (by rfl) (World.news_of_block (cs := #[.int .i64 s, .int .i64 (nearI m), .int .i64 (nearI d), .int .i64 (nearI bz), .bool y]) (t := 43) (fr := (0, 0)) (heap_alloc_new W _)) (by simp [Value.oneCell']) (by omega) (by unfold maxLen; omega) (by omega) (by simp; omega) (W.heap.size + 1) (by simp) ?_; intro gg cp w3 hown3 hgrow hat hlt3))
      have hbel3 : Below w.heap.size w w3 := ((hbelW.alloc hbelW.size (.cells #[.int .i64 s, .int .i64 (nearI m), .int .i64 (nearI d), .int .i64 (nearI bz), .bool y] 43)).drew).grown hgrow (by simp; omega) (fun j hj => (hownW.lt j hj).1)
      have hown4 : w3.ownsRow w.heap.size 43 5 (.slice (some ⟨gg, 0, none⟩) (k + 1) cp) (k + 1) (hcs (fewL hs (k + 1))) := by rw [HSN.out]; exact hown3
      clear hown3 hgrow hownW hbelW x0 x1 x2 x3 x4
      go_wp2
      go_roundw
      case rel => exact ⟨k + 1, by omega, by omega, by go_num, hown4, hbel3⟩
      case measure => simp [intOf]; omega
    · have h1 := fewL_small hs k
      have h2 := fewL_length hs k (by have := HL.out; omega)
      generalize fewL hs k = l at hown h1 h2
      have H1 : Hid (Small l) := h1
      have H2 : Hid (l.length = k) := h2
      clear h1 h2
      rcases (by omega : (len ≤ k) ∨ (k < len ∧ 20 ≤ k)) with hx | ⟨hx, hy⟩
      all_goals
        clear hgo
        go_wp2
        go_ret
        exact ⟨_, k, l, rfl, hk20, H2.out, H1.out, hown, hbel⟩

/-- One host is appended, laid by the call. -/
theorem wpList_host (w : World) {ops : Array Oper} {rest : List Oper} {o : Oper} {a : Act} {Q : Exit → Act → World → Prop} (hgd : o.guard = none) (s x : Operand) (t e : TypeId) (ht : Try.prog.underlying t = some (.slice e))
    (hinfo : (Try.prog.info? e).map (fun i => (i.zero, i.size, i.bytes)) = some (some (.agg #[.int .i64 0, .int .i64 0, .int .i64 0, .int .i64 0, .bool false]), 5, 40))
    (ho : o.op = .call { callee := .builtin .append, args := #[s, x], argTypes := #[t, t] }) (base : Nat) (v : Value) (n : Nat) (hs : List Hs) (h : Hs) (hs0 : a.eval s = v) (hown : w.ownsRow base e 5 v n (hcs hs)) (ao : Addr) (c : Nat)
    (hx : a.eval x = .slice (some ao) 1 c) (hB : ∀ j u, (hcs [h])[j]? = some u → w.cell? (ao.add j) = some u) (hn : n ≤ 1000) (hbase : base ≤ w.heap.size) (zs : List Hs) (hz : hs ++ [h] = zs)
    (hq : ∀ v' w', w'.ownsRow base e 5 v' (n + 1) (hcs zs) → w.grownBy w' v.ownBlock → wpList Try.prog ops Q rest (a.put o.dst v') w') : wpList Try.prog ops Q (o :: rest) a w := by
  obtain ⟨i, hi, hz0, hz1, hz2⟩ := info_parts hinfo
  subst hz
  refine wpList_append_own w hgd s x t ho base e i _ 5 40 ht hi hz0 hz1 hz2 rfl (by decide) v n _ hs0 hown ao 1 c (hcs [h]) hx rfl hB (hcs_one _) (by unfold maxLen; omega) (by omega) hbase ?_
  intro v' w' h1 h2 _
  exact hq v' w' (by rw [hcs_append]; exact h1) h2

theorem host_at (w : World) (s m d b : Int) (y : Bool) (t : TypeId) : ∀ j u, (hcs [⟨s, m, d, b, y⟩])[j]? = some u → (w.alloc (.cells #[.int .i64 s, .int .i64 m, .int .i64 d, .int .i64 b, .bool y] t)).cell? ((⟨w.heap.size, 0, none⟩ : Addr).add j) = some u :=
  World.news_of_block (cs := #[.int .i64 s, .int .i64 m, .int .i64 d, .int .i64 b, .bool y]) (t := t) (fr := (0, 0)) (heap_alloc_new w _)

theorem take_snocH {hs : List Hs} {j : Nat} (h : j < hs.length) : hs.take (j + 1) = hs.take j ++ [hs.getD j z0] := by
  rw [List.take_add_one]
  congr 1
  simp [List.getD, h]

set_option maxHeartbeats 1000000 in
set_option maxRecDepth 100000 in
theorem as_any (a : Option Addr) (len cap : Nat) (hs : List Hs) (w : World) (h : HostsAt w a len cap hs) (h20 : len ≤ 20) :
    Calls Try.prog 9 #[.slice a len cap] w fun e w' => ∃ v, e = .returned v ∧ w'.ownsRow w.heap.size 38 5 v len (hcs hs) ∧ Below w.heap.size w w' := by
  have hle := h.hle
  have hc := h.hcap
  have hl := h.hlen
  unfold maxLen at hc
  have HI := Hid.mk' h
  have HT : Hid (∀ j, j < len → hs.take j ++ [hs.getD j z0] = hs.take (j + 1)) := fun j hj => (take_snocH (by omega)).symm
  have HE : Hid (hs.take len = hs) := List.take_of_length_le (by omega)
  clear h hl
  go_enter Try.func9, Try.ntmps9
  go_wp2
  go_loopw [3, 4] (fun v3 v4 wr => ∃ j : Nat, v4 = .int .i64 j ∧ j ≤ len ∧ wr.ownsRow w.heap.size 38 5 v3 j (hcs (hs.take j)) ∧ Below w.heap.size w wr) (fun _ v4 _ => len + 1 - (intOf v4).toNat)
  case atStart => exact ⟨0, rfl, Nat.zero_le _, World.ownsRow_nil _ _ _ _, Below.refl _ _⟩
  case round =>
    obtain ⟨j, rfl, hj, hown, hbl⟩ := hrel
    have hszb := hbl.size
    by_cases hjl : j < len
    · obtain ⟨b, off, rfl, hlt, c0, c1, c2, c3, c4⟩ := (HI.out.below hbl).rd j hjl
      have HT2 := Hid.mk' (HT.out j hjl)
      generalize hs.getD j z0 = h at *
      obtain ⟨s, m, d, bz, y⟩ := h
      simp only [] at c0 c1 c2 c3 c4
      have o2 := hown.alloc (.cells #[.int .i64 s, .int .i64 m, .int .i64 d, .int .i64 bz, .bool y] 38)
      have hone := host_at wr s m d bz y 38
      have HBL := Hid.mk' hbl
      clear hown hbl
      go_wp2_with (first | (at_builtin; refine wpList_host _ rfl _ _ 25 38 Try.underlying25 info38 rfl w.heap.size u3 j _ ⟨s, m, d, bz, y⟩ rfl o2 _ 1 rfl hone (by omega) (by simp; omega) _ HT2.out ?_; intro v' w7 o7 g7))
      exact ⟨⟨j + 1, by simp, by omega, o7, below_grown o2 g7 (HBL.out.alloc hszb _) (Nat.le_refl _)⟩, by simp [intOf]; omega⟩
    · obtain rfl : j = len := by omega
      rw [HE.out] at hown
      have HO := Hid.mk' hown
      have HB := Hid.mk' hbl
      clear hown hbl
      go_wp2
      go_ret
      exact ⟨_, rfl, HO.out, HB.out⟩

end Go.Proofs.Ytdiifnakmemadaa
