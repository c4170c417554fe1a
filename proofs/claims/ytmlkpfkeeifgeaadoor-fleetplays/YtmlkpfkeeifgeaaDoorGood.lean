/-
  Good's list of any ints: names of its six, each once. Condition: the slice reads as ints.
-/
import Derived.Test.YtmlkpfkeeifgeaaDoorSmall
namespace Go.Proofs.YtmlkpfkeeifgeaaDoor
open Go.ChangeShapes Go.WideShapes Go.ChangeAt Go.RowKit Go.Joins Go.Deep

def pickL (l m : List ByteArray) (b : Bool) : List ByteArray := l.filter (fun x => hasB m x == b)
theorem pickL_len (l m : List ByteArray) (b : Bool) : (pickL l m b).length ≤ l.length := List.length_filter_le _ _
theorem mem_pick {l m : List ByteArray} {b : Bool} {x : ByteArray} : x ∈ pickL l m b ↔ x ∈ l ∧ hasB m x = b := by
  unfold pickL
  rw [List.mem_filter]
  simp
theorem pick_nodup {l m : List ByteArray} {b : Bool} (h : l.Nodup) : (pickL l m b).Nodup := List.Pairwise.sublist List.filter_sublist h
/-- Those of both, seen from either list, are as many. -/
theorem both_len {l m : List ByteArray} (hl : l.Nodup) (hm : m.Nodup) : (pickL l m true).length = (pickL m l true).length := by
  have hp : (pickL l m true).Perm (pickL m l true) := by
    rw [List.perm_ext_iff_of_nodup (pick_nodup hl) (pick_nodup hm)]
    intro x
    rw [mem_pick, mem_pick, hasB_iff, hasB_iff]
    exact ⟨fun h => ⟨h.2, h.1⟩, fun h => ⟨h.2, h.1⟩⟩
  exact hp.length_eq
/-- The names of Good, and its list: each once. -/
def names6 : List ByteArray := [⟨#[104, 48]⟩, ⟨#[104, 49]⟩, ⟨#[104, 50]⟩, ⟨#[104, 51]⟩, ⟨#[104, 52]⟩, ⟨#[104, 53]⟩]
theorem names6_ok : ∀ s ∈ names6, nameB s = true := by decide +kernel
theorem names6_at (k : Nat) (h : k < 6) : names6.getD k ⟨#[]⟩ ∈ names6 := getD_mem h
/-- A list of Good's names, each once, may be. -/
theorem good_len {l : List ByteArray} (h : l.Nodup) (hs : ∀ s ∈ l, s ∈ names6) : l.length ≤ 6 := by
  have e : pickL l names6 true = l := by
    unfold pickL
    rw [List.filter_eq_self]
    intro x hx
    simp [hasB_iff.2 (hs x hx)]
  have h6 : names6.Nodup := by decide +kernel
  have := both_len h h6
  rw [e] at this
  have h7 := pickL_len names6 l true
  have h8 : names6.length = 6 := rfl
  omega
theorem block_cell {w : World} {g : Nat} {l : List ByteArray} (h : w.heap[g]? = some (.cells (sc l).toArray 9 (0, 0))) {k : Nat} (hk : k < l.length) : w.cell? ⟨g, k, none⟩ = some (.string (l.getD k ⟨#[]⟩)) := by
  simp [World.cell?, h, sc, List.getD, hk]
theorem um_bd (m z : Int) (h0 : 0 < m) (h1 : m ≤ 1000000) : 0 ≤ wrap64 ((IntKind.u64.wrap z).tmod m) ∧ wrap64 ((IntKind.u64.wrap z).tmod m) < m := by
  have e : IntKind.u64.wrap z = z % 18446744073709551616 := by simp [IntKind.wrap, IntKind.signed, IntKind.bits]
  have hnn : 0 ≤ z % 18446744073709551616 := Int.emod_nonneg _ (by decide)
  rw [e, Int.tmod_eq_emod_of_nonneg hnn]
  have a1 := Int.emod_nonneg (z % 18446744073709551616) (show m ≠ 0 by omega)
  have a2 := Int.emod_lt_of_pos (z % 18446744073709551616) h0
  generalize z % 18446744073709551616 % m = y at a1 a2
  have e2 : wrap64 y = y := by
    unfold wrap64
    omega
  rw [e2]
  exact ⟨a1, a2⟩
theorem mod6 (z : Int) : ∃ j : Nat, j < 6 ∧ wrap64 ((IntKind.u64.wrap z).tmod 6) = j := by
  obtain ⟨h0, h1⟩ := um_bd 6 z (by decide) (by decide)
  exact ⟨(wrap64 ((IntKind.u64.wrap z).tmod 6)).toNat, by omega, by omega⟩


set_option maxHeartbeats 1000000 in
set_option maxRecDepth 100000 in
theorem good_any (a : Option Addr) (len cap : Nat) (zs : List Int) (w : World) (h : IntsAt w a len cap zs) :
    Calls Tryd.prog 20 #[.slice a len cap] w fun e w' => ∃ v l, e = .returned v ∧ l.Nodup ∧ (∀ s ∈ l, s ∈ names6) ∧ w'.ownsRow w.heap.size 9 1 v l.length (sc l) ∧ Below w.heap.size w w' := by
  have hcap := h.hcap
  have hle := h.hle
  unfold maxLen at hcap
  obtain ⟨i0, hi, hz0, hz1, hz2⟩ := info_parts info9
  have hblk : (w.alloc (.cells (sc names6).toArray 9)).heap[w.heap.size]? = some (.cells (sc names6).toArray 9 (0, 0)) := heap_alloc_new _ _
  have H : Hid (IntsAt (w.alloc (.cells (sc names6).toArray 9)) a len cap zs) := h.below (Nat.le_refl _) ((Below.refl _ _).alloc (Nat.le_refl _) _)
  have HB : Hid (∀ k, k < 6 → (w.alloc (.cells (sc names6).toArray 9)).cell? ⟨w.heap.size, k, none⟩ = some (.string (names6.getD k ⟨#[]⟩))) := fun k hk => block_cell hblk hk
  have HS1 : Hid ((w.alloc (.cells (sc names6).toArray 9)).heap.size = w.heap.size + 1) := Hid.mk' (by simp)
  have HW : Hid (Below w.heap.size w (w.alloc (.cells (sc names6).toArray 9))) := (Below.refl _ _).alloc (Nat.le_refl _) _
  have hfold : w.alloc (.cells #[.string ⟨#[104, 48]⟩, .string ⟨#[104, 49]⟩, .string ⟨#[104, 50]⟩, .string ⟨#[104, 51]⟩, .string ⟨#[104, 52]⟩, .string ⟨#[104, 53]⟩] 9) = w.alloc (.cells (sc names6).toArray 9) := rfl
  clear h hblk
  go_enter Tryd.func20, Tryd.ntmps20
  go_wp2
  generalize w.alloc (.cells (sc names6).toArray 9) = w1 at *
  clear hfold
  go_loopw [3, 5] (fun v i wr => ∃ (k : Nat) (l : List ByteArray), k ≤ len ∧ i = .int .i64 k ∧ l.length ≤ 6 ∧ Hid (l.Nodup ∧ ∀ s ∈ l, s ∈ names6) ∧ wr.ownsRow w1.heap.size 9 1 v l.length (sc l) ∧ Below w1.heap.size w1 wr)
    (fun _ i _ => len - (intOf i).toNat)
  case atStart => exact ⟨0, [], Nat.zero_le _, rfl, Nat.zero_le _, Hid.mk' ⟨List.Pairwise.nil, fun s hs => by cases hs⟩, World.ownsRow_nil _ _ _ _, Below.refl _ _⟩
  case round =>
    obtain ⟨k, l, hk, rfl, hl6, hG, hown, hbel⟩ := hrel
    by_cases hlt : k < len
    · obtain ⟨bb, off, rfl, hbb, hc⟩ := (H.out.below (Nat.le_refl _) hbel).at_ k hlt
      have hkn : (k : Int) < (len : Int) := by omega
      generalize zs.getD k 0 = z at *
      obtain ⟨j, hj6, hj⟩ := mod6 z
      have hcn : wr.cell? ⟨w.heap.size, j, none⟩ = some (.string (names6.getD j ⟨#[]⟩)) := (hbel.cell (p := ⟨w.heap.size, j, none⟩) (by have := HS1.out; simp only; omega)).trans (HB.out j hj6)
      have hj6' : (j : Int) < 6 := by omega
      obtain ⟨aa, cc, rfl, hst, _⟩ := owns_strs hown
      have hhas := has_any aa l.length cc l (names6.getD j ⟨#[]⟩) wr hst
      have HY : Hid (hasB l (names6.getD j ⟨#[]⟩) = false → (l ++ [names6.getD j ⟨#[]⟩]).Nodup ∧ ∀ s ∈ l ++ [names6.getD j ⟨#[]⟩], s ∈ names6) := fun e => by
        refine ⟨nodup_snoc.2 ⟨hG.out.1, hasB_not.1 e⟩, fun s hs => ?_⟩
        rcases List.mem_append.1 hs with hs | hs
        · exact hG.out.2 s hs
        · rw [List.mem_singleton.1 hs]
          exact names6_at j hj6
      have HH := Hid.mk' hst
      generalize names6.getD j ⟨#[]⟩ = f at *
      clear hst
      cases hr : hasB l f with
      | true =>
        rw [hr] at hhas
        clear HY hr
        go_wp2_with (first
          | (go_at_call 26; refine hhas.mono ?_; rintro e w' ⟨rfl, hw⟩; have hw := hw.symm; subst hw))
        go_roundw
        case rel => exact ⟨k + 1, l, by omega, by go_num, hl6, hG, hown, hbel⟩
        case measure => simp [intOf]; omega
      | false =>
        have HN := Hid.mk' (HY.out hr)
        have hl7 := good_len HN.out.1 HN.out.2
        rw [List.length_append, List.length_singleton] at hl7
        rw [hr] at hhas
        clear HY hr
        go_wp2_with (first
          | (go_at_call 26; refine hhas.mono ?_; rintro e w' ⟨rfl, hw⟩; have hw := hw.symm; subst hw)
          | (at_builtin; refine wpList_append_own _ rfl _ _ 27 rfl w1.heap.size 9 i0 (.string ⟨#[]⟩) 1 16 Tryd.underlying27 hi hz0 hz1 hz2 rfl (by decide) _ l.length _ rfl (hown.alloc _) ⟨wr.heap.size, 0, none⟩ 1 1 [.string f] rfl rfl (news_one _ _ _) (str_one _) (by unfold maxLen; omega) (by omega) (by have := hbel.size; simp; omega) ?_))
        intro v3 w3 hown3 hgrow3 _
        have hbel3 : Below w1.heap.size w1 w3 := (hbel.alloc hbel.size _).grown hgrow3 (by have := hbel.size; simp; omega) (fun j hj => (hown.lt j hj).1)
        have hown4 : w3.ownsRow w1.heap.size 9 1 v3 (l ++ [f]).length (sc (l ++ [f])) := by rw [sc_snoc, List.length_append]; exact hown3
        clear hown3 hgrow3 hown hbel hhas
        go_wp2
        go_roundw
        case rel => exact ⟨k + 1, l ++ [f], by omega, by go_num, by simp; omega, HN, hown4, hbel3⟩
        case measure => simp [intOf]; omega
    · obtain rfl : k = len := by omega
      go_wp2
      go_ret
      exact ⟨_, l, rfl, hG.out.1, hG.out.2, owns_base hown (by have := HS1.out; omega), HW.out.trans (hbel.mono (by have := HS1.out; omega))⟩


end Go.Proofs.YtmlkpfkeeifgeaaDoor
