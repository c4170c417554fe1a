/-
  A map whose keys are a list's names: how it is made, how long it is, and the closure that asks it; what Check answers, by it. Conditions: the slice reads as texts, at most 20; no text is longer than the greatest length.
-/
import Derived.Test.YtcgnhkpclpecgaaDoorRCheck
import Derived.Maps.OwnSet
namespace Go.Proofs.YtcgnhkpclpecgaaDoor
open Go.ChangeShapes Go.WideShapes Go.ChangeAt Go.RowKit Go.Maps

/-- An element reads as nothing. -/
def R0 : Value → Option (DataW Unit × List MemPlace) := fun _ => some (.nil, [])
def lits (L : List ByteArray) : List Lit := L.map fun s => Lit.string s.data.toList
def setD (L : List ByteArray) : DataW Unit := Maps.setOf .nil (lits L)
theorem keyed9 : Keyed Tryd.prog 9 := string_keyed Tryd.underlying9
theorem zero3 (w : World) : (zeroValue 3).run Tryd.prog w = .ok (.int .i64 0) w := by kernel_rfl
theorem keyOf9 {s : ByteArray} (hs : s.size ≤ maxLen) : keyOf Tryd.prog 9 (.string s) = some (.string s.data.toList) := WideMaps.keyOf_string_mk Tryd.underlying9 hs
theorem lits_key (L : List ByteArray) : ∀ x ∈ lits L, WideAt.IsKeyLit x := by
  intro x hx
  obtain ⟨s, _, rfl⟩ := List.mem_map.1 hx
  trivial
theorem sameKey_str (x y : ByteArray) : (Lit.string x.data.toList).sameKey (.string y.data.toList) = decide (x = y) := by
  by_cases h : x = y
  · subst h
    rw [WideAt.sameKey_self (show WideAt.IsKeyLit (.string x.data.toList) from trivial)]
    simp
  · rw [Maps.sameKey_ne (fun e => h (by injection e with e1; exact ByteArray.ext (Array.toList_inj.1 e1)))]
    simp [h]
theorem has_setD (L : List ByteArray) (x : ByteArray) : Maps.has (setD L) (.string x.data.toList) = hasB L x := by
  unfold setD
  rw [Maps.has_setOf _ _ _ (lits_key L)]
  unfold lits hasB
  rw [List.any_map]
  congr 1
  funext y
  exact sameKey_str y x
theorem setD_snoc (L : List ByteArray) (x : ByteArray) : setD (L ++ [x]) = (setD L).put (.string x.data.toList) .nil := by
  unfold setD lits
  rw [List.map_append]
  exact Maps.setOf_snoc _ _ _
theorem tidy_setD (L : List ByteArray) : Maps.Tidy (setD L) := Maps.tidy_setOf _ _ (lits_key L)
def sz (L : List ByteArray) : Nat := Maps.size (setD L)
theorem sz_snoc (L : List ByteArray) (x : ByteArray) : sz (L ++ [x]) = if hasB L x then sz L else sz L + 1 := by
  unfold sz
  rw [setD_snoc, Maps.size_put (tidy_setD L), has_setD]
theorem sz_both : ∀ (n : Nat) (L : List ByteArray), L.length = n → sz L ≤ L.length ∧ (sz L = L.length ↔ L.Nodup)
  | 0, L, h => by
    have : L = [] := List.eq_nil_of_length_eq_zero h
    subst this
    exact ⟨Nat.le_refl _, by simp; rfl⟩
  | n + 1, L, h => by
    rcases List.eq_nil_or_concat L with rfl | ⟨L', x, rfl⟩
    · simp at h
    · rw [List.concat_eq_append] at *
      have hl : L'.length = n := by simpa using h
      obtain ⟨h1, h2⟩ := sz_both n L' hl
      rw [sz_snoc, nodup_snoc, List.length_append, List.length_singleton]
      cases hx : hasB L' x with
      | true =>
        rw [if_pos rfl]
        refine ⟨by omega, ⟨fun e => by omega, fun e => absurd (hasB_iff.1 hx) e.2⟩⟩
      | false =>
        rw [if_neg (by simp)]
        refine ⟨by omega, ⟨fun e => ⟨h2.1 (by omega), hasB_not.1 hx⟩, fun e => by rw [h2.2 e.1]⟩⟩
theorem sz_le (L : List ByteArray) : sz L ≤ L.length := (sz_both _ L rfl).1
theorem sz_nodup (L : List ByteArray) : sz L = L.length ↔ L.Nodup := (sz_both _ L rfl).2

/-- Block g is a map whose keys are L's names. -/
def MAt (w : World) (g : Nat) (L : List ByteArray) : Prop := w.ownsMap Tryd.prog 9 R0 g L.length (setD L)
theorem MAt.below {w w' : World} {g n : Nat} {L : List ByteArray} (h : MAt w g L) (hn : w.heap.size ≤ n) (hb : Below n w w') : MAt w' g L := by
  obtain ⟨es, cl, h3, r⟩ := h
  exact ⟨es, cl, by rw [hb.block g (Nat.lt_of_lt_of_le (Array.getElem?_eq_some_iff.1 h3).1 hn)]; exact h3, r⟩
theorem MAt.look {w : World} {g : Nat} {L : List ByteArray} (h : MAt w g L) {x : ByteArray} (hx : x.size ≤ maxLen) : ∃ v, (Instr.lookup 38 (.map (some g)) (.string x) true).run Tryd.prog w = .ok (.tuple #[v, .bool (hasB L x)]) w := by
  obtain ⟨v, ps, hrun, _⟩ := World.ownsMap.look_ok h keyed9 Tryd.underlying38 (zero3 w) (zd := .nil) (zp := []) rfl (keyOf9 hx)
  rw [has_setD] at hrun
  exact ⟨v, hrun⟩
theorem run_makeMap_hint (n : Int) (w : World) : (Instr.makeMap 38 (some (.int .i64 n))).run Tryd.prog w = .ok (.map (some w.heap.size)) (w.alloc (.map #[] 0)) := by
  simp [Instr.makeMap, run_underlying Tryd.underlying38, asInt, asIntOf, Result.andThen]

set_option maxRecDepth 100000 in
theorem places_any (a : Option Addr) (len cap : Nat) (ss : List ByteArray) (w : World) (h : StrsAt w a len cap ss) (h20 : len ≤ 20) (hsz : ∀ s ∈ ss, s.size ≤ maxLen) :
    Calls Tryd.prog 20 #[.slice a len cap] w fun e w' => e = .returned (.map (some w.heap.size)) ∧ MAt w' w.heap.size ss ∧ Below w.heap.size w w' := by
  have hcap := h.hcap
  have hle := h.hle
  unfold maxLen at hcap
  have H : Hid (StrsAt w a len cap ss) := h
  have HL : Hid (ss.length = len) := h.hlen
  have HS : Hid (∀ s ∈ ss, s.size ≤ maxLen) := hsz
  clear h hsz
  have hmm := run_makeMap_hint
  go_enter Tryd.func20, Tryd.ntmps20
  go_wp2
  go_loopw [11] (fun i wr => ∃ k : Nat, k ≤ len ∧ i = .int .i64 k ∧ wr.ownsMap Tryd.prog 9 R0 w.heap.size k (setD (ss.take k)) ∧ Below w.heap.size w wr) (fun i _ => len - (intOf i).toNat)
  case atStart => exact ⟨0, Nat.zero_le _, rfl, World.ownsMap_made _ _ _ _, (Below.refl _ _).alloc (Nat.le_refl _) _⟩
  case round =>
    obtain ⟨k, hk, rfl, hown, hbel⟩ := hrel
    by_cases hlt : k < len
    · obtain ⟨b, off, rfl, hb, hc0⟩ := H.out.at_ k hlt
      have hc := (hbel.cell (p := ⟨b, off + k, none⟩) hb).trans hc0
      have hkl : k < ss.length := by have := HL.out; omega
      have hkn : (k : Int) < (len : Int) := by omega
      have hkey := keyOf9 (HS.out _ (getD_mem hkl))
      have HN : Hid (setD (ss.take (k + 1)) = (setD (ss.take k)).put (.string (ss.getD k ⟨#[]⟩).data.toList) .nil) := Hid.mk' (by rw [take_snoc hkl, setD_snoc])
      generalize ss.getD k ⟨#[]⟩ = f at *
      clear hc0
      go_wp2_with (first
        | (at_mapUpdate; refine wpList_mapUpdate_own _ rfl _ _ _ 38 rfl 9 3 keyed9 Tryd.underlying38 R0 w.heap.size k _ rfl hown (by unfold maxLen; omega) _ _ _ rfl rfl hkey .nil [] rfl ?_; intro w1 hown1 hgrow1))
      have R1 : w1.ownsMap Tryd.prog 9 R0 w.heap.size (k + 1) (setD (ss.take (k + 1))) := by rw [HN.out]; exact hown1
      have R2 := hbel.grown hgrow1 hbel.size (fun j hj => by cases hj; exact Nat.le_refl _)
      clear hown1 hgrow1 hown hbel hkey HN
      go_wp2
      go_roundw
      case rel => exact ⟨k + 1, by omega, by go_num, R1, R2⟩
      case measure => simp [intOf]; omega
    · obtain rfl : k = len := by omega
      have HH : Hid (MAt wr w.heap.size ss) := by
        rw [List.take_of_length_le (by have := HL.out; omega)] at hown
        have := HL.out
        rw [← this] at hown
        exact hown
      clear hown
      go_wp2
      go_ret
      exact ⟨rfl, HH.out, hbel⟩

set_option maxHeartbeats 1000000 in
set_option maxRecDepth 100000 in
theorem check_any (a : Option Addr) (len cap : Nat) (ss : List ByteArray) (w : World) (h : StrsAt w a len cap ss) (hsz : ∀ s ∈ ss, s.size ≤ maxLen) :
    Calls Tryd.prog 14 #[.slice a len cap] w fun e w' => e = .returned (.int .i64 (chk ss)) ∧ Below w.heap.size w w' := by
  have hcap := h.hcap
  have hle := h.hle
  unfold maxLen at hcap
  have H : Hid (StrsAt w a len cap ss) := h
  have HL : Hid (ss.length = len) := h.hlen
  have HS : Hid (∀ s ∈ ss, s.size ≤ maxLen) := hsz
  clear h hsz
  by_cases h16 : 16 < len
  · have h16' : (16 : Int) < (len : Int) := by omega
    have HH : Hid (chk ss = 13) := chk_long (by rw [HL.out]; exact h16)
    go_enter Tryd.func14, Tryd.ntmps14
    go_wp2
    go_ret
    exact ⟨ret_int HH.out.symm, Below.refl _ _⟩
  · have h16' : (len : Int) ≤ 16 := by omega
    have H16 : Hid (¬ 16 < ss.length) := Hid.mk' (by rw [HL.out]; exact h16)
    go_enter Tryd.func14, Tryd.ntmps14
    go_wp2
    go_loopw [10] (fun i wr => ∃ k : Nat, k ≤ len ∧ i = .int .i64 k ∧ Hid ((ss.take k).all nameB = true) ∧ wr = w) (fun i _ => len - (intOf i).toNat)
    case atStart => exact ⟨0, Nat.zero_le _, rfl, Hid.mk' rfl, rfl⟩
    case round =>
      obtain ⟨k, hk, rfl, hA, rfl⟩ := hrel
      by_cases hlt : k < len
      · obtain ⟨b, off, rfl, hb, hc⟩ := H.out.at_ k hlt
        have hkl : k < ss.length := by have := HL.out; omega
        have hkn : (k : Int) < (len : Int) := by omega
        have hnm := name_any (ss.getD k ⟨#[]⟩) (HS.out _ (getD_mem hkl)) wr
        have HY : Hid (nameB (ss.getD k ⟨#[]⟩) = true → (ss.take (k + 1)).all nameB = true) := fun e => names_snoc hkl hA.out e
        have HN : Hid (nameB (ss.getD k ⟨#[]⟩) = false → chk ss = 11) := fun e => chk_name H16.out hkl e
        generalize ss.getD k ⟨#[]⟩ = f at *
        clear hA
        cases hr : nameB f with
        | true =>
          have HH := Hid.mk' (HY.out hr)
          rw [hr] at hnm
          clear HY HN hr
          go_wp2_with (go_at_call 9; refine hnm.mono ?_; rintro e w' ⟨rfl, rfl⟩)
          go_roundw
          case rel => exact ⟨k + 1, by omega, by go_num, HH, trivial⟩
          case measure => simp [intOf]; omega
        | false =>
          have HH := Hid.mk' (HN.out hr)
          rw [hr] at hnm
          clear HY HN hr
          go_wp2_with (go_at_call 9; refine hnm.mono ?_; rintro e w' ⟨rfl, rfl⟩)
          go_ret
          exact ⟨ret_int HH.out.symm, Below.refl _ _⟩
      · obtain rfl : k = len := by omega
        have HA : Hid (ss.all nameB = true) := by
          have := hA.out
          rwa [List.take_of_length_le (by have := HL.out; omega)] at this
        have hp := places_any a k cap ss wr H.out (by omega) HS.out
        have hszl := sz_le ss
        rw [HL.out] at hszl
        have HY : Hid (sz ss < k → chk ss = 6) := fun e => chk_twice H16.out HA.out (fun hn => by have := (sz_nodup ss).2 hn; have := HL.out; omega)
        have HN : Hid (¬ sz ss < k → chk ss = 0) := fun e => chk_good H16.out HA.out ((sz_nodup ss).1 (by have := HL.out; omega))
        clear hA HA
        go_wp2_with fail
        refine hp.mono ?_
        rintro e w2 ⟨rfl, hM, hb2⟩
        by_cases hs : sz ss < k
        · have HH := Hid.mk' (HY.out hs)
          unfold sz at hs
          clear HY HN hp hszl
          go_wp2_with (at_len; refine wpList_len_own _ rfl _ 38 rfl 9 3 Tryd.underlying38 R0 _ _ _ rfl hM ?_)
          go_ret
          exact ⟨ret_int HH.out.symm, hb2⟩
        · have HH := Hid.mk' (HN.out hs)
          unfold sz at hs
          clear HY HN hp hszl
          go_wp2_with (at_len; refine wpList_len_own _ rfl _ 38 rfl 9 3 Tryd.underlying38 R0 _ _ _ rfl hM ?_)
          go_ret
          exact ⟨ret_int HH.out.symm, hb2⟩

theorem may_ne1 {o n : List ByteArray} (h : ¬ chk o = 0) : may o n = false := by unfold may; simp [h]
theorem may_ne2 {o n : List ByteArray} (h : ¬ chk n = 0) : may o n = false := by unfold may; simp [h]
theorem may_both {o n : List ByteArray} (h1 : chk o = 0) (h2 : chk n = 0) : may o n = true := by unfold may; simp [h1, h2]
theorem chk_cases (l : List ByteArray) : chk l = 0 ∨ (chk l = 13 ∨ chk l = 11 ∨ chk l = 6) := by unfold chk; split <;> (try split) <;> (try split) <;> simp

set_option maxRecDepth 100000 in
theorem mayBe_any (a a' : Option Addr) (n n' ca cb : Nat) (l m : List ByteArray) (w : World) (h : StrsAt w a n ca l) (hl : ∀ s ∈ l, s.size ≤ maxLen) (h' : StrsAt w a' n' cb m) (hm : ∀ s ∈ m, s.size ≤ maxLen) :
    Calls Tryd.prog 21 #[.slice a n ca, .slice a' n' cb] w fun e w' => e = .returned (.bool (may l m)) ∧ Below w.heap.size w w' := by
  have c1 := check_any a n ca l w h hl
  have HC2 : Hid (∀ w2, Below w.heap.size w w2 → Calls Tryd.prog 14 #[.slice a' n' cb] w2 fun e w' => e = .returned (.int .i64 (chk m)) ∧ Below w2.heap.size w2 w') := fun w2 hb => check_any a' n' cb m w2 (h'.below (Nat.le_refl _) hb) hm
  have HM : Hid ((¬ chk l = 0 → may l m = false) ∧ (¬ chk m = 0 → may l m = false) ∧ (chk l = 0 → chk m = 0 → may l m = true)) := ⟨may_ne1, may_ne2, may_both⟩
  clear h h' hl hm
  go_enter Tryd.func21, Tryd.ntmps21
  go_wp2_with fail
  refine c1.mono ?_
  rintro e w2 ⟨rfl, hb2⟩
  have c2 := HC2.out w2 hb2
  generalize chk l = x at *
  generalize chk m = y at *
  clear HC2 c1
  by_cases hx : x = 0
  · subst hx
    by_cases hy : y = 0
    · subst hy
      have HR := Hid.mk' (HM.out.2.2 rfl rfl)
      go_wp2_with (go_at_call 14; refine c2.mono ?_; rintro e w3 ⟨rfl, hb3⟩)
      go_ret
      exact ⟨ret_bool HR.out.symm, hb2.trans (hb3.mono hb2.size)⟩
    · have HR := Hid.mk' (HM.out.2.1 hy)
      have hy2 : (y == 0) = false := by simpa using hy
      go_wp2_with (go_at_call 14; refine c2.mono ?_; rintro e w3 ⟨rfl, hb3⟩)
      go_ret
      exact ⟨ret_bool HR.out.symm, hb2.trans (hb3.mono hb2.size)⟩
  · have HR := Hid.mk' (HM.out.1 hx)
    have hx2 : (x == 0) = false := by simpa using hx
    go_wp2
    go_ret
    exact ⟨ret_bool HR.out.symm, hb2⟩

/-- The closure: it holds the map of L's names. -/
def fn (p : Nat) : Value := .func (.func 29) #[] #[.pointer (some ⟨p, 0, none⟩)]
def CloAt (w : World) (p : Nat) (L : List ByteArray) : Prop := ∃ g, p < w.heap.size ∧ w.cell? ⟨p, 0, none⟩ = some (.map (some g)) ∧ MAt w g L
theorem CloAt.below {w w' : World} {p n : Nat} {L : List ByteArray} (h : CloAt w p L) (hn : w.heap.size ≤ n) (hb : Below n w w') : CloAt w' p L := by
  obtain ⟨g, h1, h2, h3⟩ := h
  exact ⟨g, Nat.lt_of_lt_of_le h1 hb.size, (hb.cell (p := ⟨p, 0, none⟩) (Nat.lt_of_lt_of_le h1 hn)).trans h2, h3.below hn hb⟩

set_option maxRecDepth 100000 in
theorem mem1_any (p : Nat) (L : List ByteArray) (x : ByteArray) (w : World) (h : CloAt w p L) (hx : x.size ≤ maxLen) :
    Calls Tryd.prog 29 #[.string x, .pointer (some ⟨p, 0, none⟩)] w fun e w' => e = .returned (.bool (hasB L x)) ∧ w' = w := by
  obtain ⟨g, h1, h2, h3⟩ := h
  obtain ⟨v, hlook⟩ := h3.look hx
  generalize hasB L x = r at *
  clear h3 hx
  go_enter Tryd.func29, Tryd.ntmps29
  go_wp2
  go_ret
  exact ⟨rfl, rfl⟩

set_option maxRecDepth 100000 in
theorem members_any (a : Option Addr) (len cap : Nat) (ss : List ByteArray) (w : World) (h : StrsAt w a len cap ss) (h20 : len ≤ 20) (hsz : ∀ s ∈ ss, s.size ≤ maxLen) :
    Calls Tryd.prog 22 #[.slice a len cap] w fun e w' => ∃ p, e = .returned (fn p) ∧ CloAt w' p ss ∧ Below w.heap.size w w' := by
  have hp := places_any a len cap ss w h h20 hsz
  have hmf : ∀ (fn : Fn) (first cap : Array Value) (w : World), (Instr.makeFunc fn first cap).run Tryd.prog w = .ok (.func fn first cap) w := fun _ _ _ _ => rfl
  clear h hsz
  go_enter Tryd.func22, Tryd.ntmps22
  go_wp2_with fail
  refine hp.mono ?_
  rintro e w2 ⟨rfl, hM, hb2⟩
  have HM := Hid.mk' hM
  clear hp hM
  go_wp2
  go_ret
  refine ⟨w2.heap.size, rfl, ⟨w.heap.size, by simp, by simp, HM.out.below (Nat.le_refl _) ((Below.refl _ _).alloc (Nat.le_refl _) _)⟩, hb2.alloc hb2.size _⟩

end Go.Proofs.YtcgnhkpclpecgaaDoor
