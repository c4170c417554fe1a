/-
  Names, lists of them, a map whose keys are a list's names; what Check answers (package diff's, and the document's own). Conditions: the slice reads as texts, each no longer than the greatest length.
-/
import Derived.Test.YtmlkpfkeeifgeaaDoorRows
import Derived.WalkKit
import Derived.ProofKit
import Derived.OpenShut
import Derived.WalkLawsBesides
import Derived.WalkSpells
import Derived.Deep.QuietTactic
import Derived.BigQuiet
import Derived.Lib.SmallJoins
import Derived.Deep.Strs
import Derived.Laws.AppendOwn
import Derived.Laws.OwnMore
import Derived.Deep.Slices
import Derived.Maps.OwnSet
namespace Go.Proofs.YtmlkpfkeeifgeaaDoor.Df

def letB (b : UInt8) : Bool := (decide (97 ≤ b.toNat) && decide (b.toNat ≤ 122)) || (decide (48 ≤ b.toNat) && decide (b.toNat ≤ 57)) || decide (b.toNat = 46) || decide (b.toNat = 45)
def nameB (s : ByteArray) : Bool := decide (1 ≤ s.size) && decide (s.size ≤ 16) && s.data.toList.all letB
def chk (l : List ByteArray) : Int := if 16 < l.length then 13 else if l.all nameB = true then (if l.Nodup then 0 else 6) else 11
def hasB (m : List ByteArray) (x : ByteArray) : Bool := m.any (fun y => decide (y = x))
theorem hasB_iff {m : List ByteArray} {x : ByteArray} : hasB m x = true ↔ x ∈ m := by unfold hasB; simp
theorem hasB_not {m : List ByteArray} {x : ByteArray} : hasB m x = false ↔ x ∉ m := by rw [← hasB_iff]; cases hasB m x <;> simp
def pickL (l m : List ByteArray) (b : Bool) : List ByteArray := l.filter (fun x => hasB m x == b)
def may (o n : List ByteArray) : Bool := decide (chk o = 0) && decide (chk n = 0)
def cameL (o n : List ByteArray) : List ByteArray := if may o n = true then pickL n o false else []
def wentL (o n : List ByteArray) : List ByteArray := if may o n = true then pickL o n false else []
def bothL (o n : List ByteArray) : List ByteArray := if may o n = true then pickL o n true else []
def joinL (o n : List ByteArray) : List ByteArray := if may o n = true then pickL o n true ++ pickL n o false else o

/-- How a byte lies to the letters. -/
theorem let_cases (b : UInt8) :
    (letB b = true ∧ (97 : Int) ≤ b.toNat ∧ (b.toNat : Int) ≤ 122) ∨ (letB b = true ∧ (b.toNat : Int) < 97 ∧ (48 : Int) ≤ b.toNat ∧ (b.toNat : Int) ≤ 57) ∨ (letB b = true ∧ (b.toNat : Int) = 46) ∨ (letB b = true ∧ (b.toNat : Int) = 45) ∨
    (letB b = false ∧ (97 : Int) ≤ b.toNat ∧ (48 : Int) ≤ b.toNat ∧ decide ((b.toNat : Int) ≤ 122) = false ∧ decide ((b.toNat : Int) ≤ 57) = false ∧ ((b.toNat : Int) == 46) = false ∧ ((b.toNat : Int) == 45) = false) ∨ (letB b = false ∧ decide ((97 : Int) ≤ b.toNat) = false ∧ (48 : Int) ≤ b.toNat ∧ decide ((b.toNat : Int) ≤ 57) = false ∧ ((b.toNat : Int) == 46) = false ∧ ((b.toNat : Int) == 45) = false) ∨ (letB b = false ∧ decide ((97 : Int) ≤ b.toNat) = false ∧ decide ((48 : Int) ≤ b.toNat) = false ∧ ((b.toNat : Int) == 46) = false ∧ ((b.toNat : Int) == 45) = false) := by
  unfold letB
  generalize b.toNat = n
  by_cases h1 : 97 ≤ n
  · by_cases h2 : n ≤ 122
    · left; refine ⟨by simp [h1, h2], by omega, by omega⟩
    · right; right; right; right; left
      refine ⟨?_, by omega, by omega, by simp; omega, by simp; omega, by simp; omega, by simp; omega⟩
      simp [h2]; omega
  · by_cases h3 : 48 ≤ n
    · by_cases h4 : n ≤ 57
      · right; left; refine ⟨by simp [h3, h4], by omega, by omega, by omega⟩
      · right; right; right; right; right; left
        refine ⟨?_, by simp; omega, by omega, by simp; omega, by simp; omega, by simp; omega⟩
        simp [h1, h4]; omega
    · by_cases h5 : n = 46
      · right; right; left; exact ⟨by simp [h5], by omega⟩
      · by_cases h6 : n = 45
        · right; right; right; left; exact ⟨by simp [h6], by omega⟩
        · right; right; right; right; right; right
          refine ⟨?_, by simp; omega, by simp; omega, by simp; omega, by simp; omega⟩
          simp [h1, h3, h5, h6]

theorem all_snoc {l : List UInt8} {k : Nat} (h : k < l.length) (ha : (l.take k).all letB = true) (hb : letB l[k] = true) : (l.take (k + 1)).all letB = true := by
  rw [List.take_succ_eq_append_getElem h, List.all_append, ha]
  simp [hb]
theorem all_fail {l : List UInt8} {k : Nat} (h : k < l.length) (hb : letB l[k] = false) : l.all letB = false := by
  cases hx : l.all letB with
  | false => rfl
  | true => exact absurd (List.all_eq_true.1 hx _ (List.getElem_mem h)) (by simp [hb])

theorem nameB_big {s : ByteArray} (h : 16 < s.size) : nameB s = false := by unfold nameB; simp; omega
theorem nameB_nil {s : ByteArray} (h : s.size = 0) : nameB s = false := by unfold nameB; simp [h]
theorem nameB_mid {s : ByteArray} (h1 : 1 ≤ s.size) (h2 : s.size ≤ 16) : nameB s = s.data.toList.all letB := by unfold nameB; simp [h1, h2]
theorem nameB_bad {s : ByteArray} (h : s.data.toList.all letB = false) : nameB s = false := by unfold nameB; rw [h]; simp
theorem nameB_size {s : ByteArray} (h : nameB s = true) : 1 ≤ s.size ∧ s.size ≤ 16 := by
  unfold nameB at h
  simp only [Bool.and_eq_true, decide_eq_true_eq] at h
  exact h.1

/-- Texts are one just if their bytes are. -/
theorem beq_toList (x y : ByteArray) : (x.toList == y.toList) = decide (x = y) := by
  rw [Lib.toList_data, Lib.toList_data]
  by_cases h : x = y
  · subst h; simp
  · have : x.data.toList ≠ y.data.toList := fun e => h (ByteArray.ext (Array.toList_inj.1 e))
    rw [decide_eq_false h]
    simpa using this
theorem bne_toList (x y : ByteArray) : (x.toList != y.toList) = !decide (x = y) := by rw [← beq_toList]; rfl
theorem empty_of_size {s : ByteArray} (h : s.size = 0) : s = ⟨#[]⟩ := by
  apply ByteArray.ext
  apply Array.eq_empty_of_size_eq_zero
  exact h

end Go.Proofs.YtmlkpfkeeifgeaaDoor.Df
namespace Go.Proofs.YtmlkpfkeeifgeaaDoor.Df
open Go.ChangeShapes Go.WideShapes Go.ChangeAt Go.RowKit

theorem Hid.mk' {p : Prop} (h : p) : Hid p := h
theorem ret_bool {a b : Bool} (h : a = b) : Ending.returned (.bool a) = .returned (.bool b) := by rw [h]
theorem ret_int {k : IntKind} {a b : Int} (h : a = b) : Ending.returned (.int k a) = .returned (.int k b) := by rw [h]

theorem letter_any (b : UInt8) (w : World) :
    Calls Tryd.prog 98 #[.int .u8 b.toNat] w fun e w' => e = .returned (.bool (letB b)) ∧ w' = w := by
  have hc := let_cases b
  generalize letB b = r at *
  generalize (b.toNat : Int) = n at *
  rcases hc with ⟨rfl, h1, h2⟩ | ⟨rfl, h1, h2, h3⟩ | ⟨rfl, rfl⟩ | ⟨rfl, rfl⟩ | ⟨rfl, h1, h2, h3, h4, h5, h6⟩ | ⟨rfl, h1, h2, h3, h4, h5⟩ | ⟨rfl, h1, h2, h3, h4⟩
  all_goals
    go_enter Tryd.func98, Tryd.ntmps98
    go_wp2
    go_ret
    exact ⟨ret_bool (by first | rfl | simp_all), rfl⟩

set_option maxRecDepth 100000 in
theorem rname_any (s : ByteArray) (hs : s.size ≤ maxLen) (w : World) :
    Calls Tryd.prog 92 #[.string s] w fun e w' => e = .returned (.bool (nameB s)) ∧ w' = w := by
  unfold maxLen at hs
  go_enter Tryd.func92, Tryd.ntmps92
  go_wp2
  go_loopw [3] (fun i wr => ∃ k : Nat, k ≤ s.size ∧ i = .int .i64 k ∧ Hid ((s.data.toList.take k).all letB = true) ∧ wr = w) (fun i _ => s.size - (intOf i).toNat)
  case atStart => exact ⟨0, Nat.zero_le _, rfl, Hid.mk' rfl, rfl⟩
  case round =>
    obtain ⟨k, hk, rfl, hA, rfl⟩ := hrel
    by_cases hlt : k < s.size
    · have hl : k < s.data.toList.length := by simpa using hlt
      have hkn : (k : Int) < (s.size : Int) := by omega
      have hget : s[k] = s.data.toList[k] := rfl
      have hc := let_cases s[k]
      have HY : Hid (letB s[k] = true → (s.data.toList.take (k + 1)).all letB = true) := fun h => all_snoc hl hA.out (by rw [← hget]; exact h)
      have HN : Hid (letB s[k] = false → nameB s = false) := fun h => nameB_bad (all_fail hl (by rw [← hget]; exact h))
      clear hget
      rcases hc with ⟨hr, h1, h2⟩ | ⟨hr, h1, h2, h3⟩ | ⟨hr, h1⟩ | ⟨hr, h1⟩ | ⟨hr, h1, h2, h3, h4, h5, h6⟩ | ⟨hr, h1, h2, h3, h4, h5⟩ | ⟨hr, h1, h2, h3, h4⟩
      iterate 4
        · have HH := Hid.mk' (HY.out hr)
          clear HY HN hr hA
          go_wp2
          go_roundw
          case rel => exact ⟨k + 1, by omega, by go_num, HH, trivial⟩
          case measure => simp [intOf]; omega
      all_goals
        have HH := Hid.mk' (HN.out hr)
        clear HY HN hr hA
        go_wp2
        go_ret
        exact ⟨ret_bool HH.out.symm, rfl⟩
    · obtain rfl : k = s.size := by omega
      have hall : s.data.toList.all letB = true := by
        have := hA.out
        rwa [List.take_of_length_le (by simp)] at this
      have HH : Hid (nameB s = (decide ((1 : Int) ≤ s.size) && decide ((s.size : Int) ≤ 16))) := Hid.mk' (by
        unfold nameB
        rw [hall, Bool.and_true]
        congr 1
        · exact decide_eq_decide.2 (by omega)
        · exact decide_eq_decide.2 (by omega))
      clear hA hall
      by_cases h1 : (1 : Int) ≤ s.size
      · by_cases h2 : (s.size : Int) ≤ 16
        · go_wp2
          go_ret
          exact ⟨ret_bool (by rw [HH.out]; simp [h1, h2]), rfl⟩
        · go_wp2
          go_ret
          exact ⟨ret_bool (by rw [HH.out]; simp [h1, h2]), rfl⟩
      · go_wp2
        go_ret
        exact ⟨ret_bool (by rw [HH.out]; simp; omega), rfl⟩

set_option maxRecDepth 100000 in
theorem name_any (s : ByteArray) (hs : s.size ≤ maxLen) (w : World) :
    Calls Tryd.prog 80 #[.string s] w fun e w' => e = .returned (.bool (nameB s)) ∧ w' = w := by
  unfold maxLen at hs
  by_cases h0 : s.size = 0
  · obtain rfl := empty_of_size h0
    go_enter Tryd.func80, Tryd.ntmps80
    go_wp2
    go_ret
    exact ⟨ret_bool (nameB_nil h0).symm, rfl⟩
  · have hne : ¬ s.toList = [] := by
      rw [Lib.toList_data]
      intro e
      apply h0
      rw [Lib.size_eq, e]
      rfl
    have hne2 : s.toList.isEmpty = false := by simpa using hne
    by_cases hb : 16 < s.size
    · have hb' : (16 : Int) < s.size := by omega
      have HH := Hid.mk' (nameB_big hb)
      go_enter Tryd.func80, Tryd.ntmps80
      go_wp2
      go_ret
      exact ⟨ret_bool HH.out.symm, rfl⟩
    · have hb' : (s.size : Int) ≤ 16 := by omega
      have HM := Hid.mk' (nameB_mid (s := s) (by omega) (by omega))
      go_enter Tryd.func80, Tryd.ntmps80
      go_wp2
      go_loopw [13] (fun i wr => ∃ k : Nat, k ≤ s.size ∧ i = .int .i64 k ∧ Hid ((s.data.toList.take k).all letB = true) ∧ wr = w) (fun i _ => s.size - (intOf i).toNat)
      case atStart => exact ⟨0, Nat.zero_le _, rfl, Hid.mk' rfl, rfl⟩
      case round =>
        obtain ⟨k, hk, rfl, hA, rfl⟩ := hrel
        by_cases hlt : k < s.size
        · have hl : k < s.data.toList.length := by simpa using hlt
          have hkn : (k : Int) < (s.size : Int) := by omega
          have hget : s[k] = s.data.toList[k] := rfl
          have hlet := letter_any s[k] wr
          have HY : Hid (letB s[k] = true → (s.data.toList.take (k + 1)).all letB = true) := fun h => all_snoc hl hA.out (by rw [← hget]; exact h)
          have HN : Hid (letB s[k] = false → nameB s = false) := fun h => nameB_bad (all_fail hl (by rw [← hget]; exact h))
          clear hget hA
          cases hr : letB s[k] with
          | true =>
            have HH := Hid.mk' (HY.out hr)
            rw [hr] at hlet
            clear HY HN hr
            go_wp2_with (go_at_call 98; refine hlet.mono ?_; rintro e w' ⟨rfl, rfl⟩)
            go_roundw
            case rel => exact ⟨k + 1, by omega, by go_num, HH, trivial⟩
            case measure => simp [intOf]; omega
          | false =>
            have HH := Hid.mk' (HN.out hr)
            rw [hr] at hlet
            clear HY HN hr
            go_wp2_with (go_at_call 98; refine hlet.mono ?_; rintro e w' ⟨rfl, rfl⟩)
            go_ret
            exact ⟨ret_bool HH.out.symm, rfl⟩
        · obtain rfl : k = s.size := by omega
          have hall : s.data.toList.all letB = true := by
            have := hA.out
            rwa [List.take_of_length_le (by simp)] at this
          have HH := Hid.mk' (HM.out.trans hall)
          clear hA hall HM
          go_wp2
          go_ret
          exact ⟨ret_bool HH.out.symm, rfl⟩

end Go.Proofs.YtmlkpfkeeifgeaaDoor.Df
namespace Go.Proofs.YtmlkpfkeeifgeaaDoor.Df
open Go.ChangeShapes Go.WideShapes Go.ChangeAt Go.RowKit Go.Joins Go.Deep

theorem own : ownKnob Tryd.prog.godebug = none := by kernel_rfl
theorem laidOut : laidOutB Tryd.prog = true := by kernel_rfl
theorem cells9 : Tryd.prog.cellsOf 9 = 1 := by kernel_rfl
theorem cells3 : Tryd.prog.cellsOf 3 = 1 := by kernel_rfl
theorem info9 : (Tryd.prog.info? 9).map (fun i => (i.zero, i.size, i.bytes)) = some (some (.string ⟨#[]⟩), 1, 16) := by kernel_rfl

/-- The slice (a, len, cap) reads as the texts ss. -/
structure StrsAt (w : World) (a : Option Addr) (len cap : Nat) (ss : List ByteArray) : Prop where
  hlen : ss.length = len
  hle : len ≤ cap
  hcap : cap ≤ maxLen
  at_ : ∀ j, j < len → ∃ b off, a = some ⟨b, off, none⟩ ∧ b < w.heap.size ∧ w.cell? ⟨b, off + j, none⟩ = some (.string (ss.getD j ⟨#[]⟩))

theorem StrsAt.below {w w' : World} {a : Option Addr} {len cap n : Nat} {ss : List ByteArray} (h : StrsAt w a len cap ss) (hn : w.heap.size ≤ n) (hb : Below n w w') : StrsAt w' a len cap ss := by
  refine ⟨h.hlen, h.hle, h.hcap, fun j hj => ?_⟩
  obtain ⟨b, off, e, hlt, hc⟩ := h.at_ j hj
  exact ⟨b, off, e, Nat.lt_of_lt_of_le hlt hb.size, (hb.cell (p := ⟨b, off + j, none⟩) (Nat.lt_of_lt_of_le hlt hn)).trans hc⟩
theorem StrsAt.nil (w : World) (a : Option Addr) (cap : Nat) (h : cap ≤ maxLen) : StrsAt w a 0 cap [] := ⟨rfl, Nat.zero_le _, h, fun _ hj => absurd hj (Nat.not_lt_zero _)⟩
theorem StrsAt.take {w : World} {a : Option Addr} {len cap : Nat} {ss : List ByteArray} (h : StrsAt w a len cap ss) {n : Nat} (hn : n ≤ len) : StrsAt w a n cap (ss.take n) := by
  refine ⟨by rw [List.length_take, h.hlen]; omega, Nat.le_trans hn h.hle, h.hcap, fun j hj => ?_⟩
  obtain ⟨b, off, e, hlt, hc⟩ := h.at_ j (by omega)
  refine ⟨b, off, e, hlt, hc.trans ?_⟩
  simp [List.getD, hj]
theorem getD_mem {ss : List ByteArray} {j : Nat} (h : j < ss.length) : ss.getD j ⟨#[]⟩ ∈ ss := by
  have e : ss.getD j ⟨#[]⟩ = ss[j] := by simp [List.getD, h]
  rw [e]
  exact List.getElem_mem h
theorem take_snoc {ss : List ByteArray} {k : Nat} (h : k < ss.length) : ss.take (k + 1) = ss.take k ++ [ss.getD k ⟨#[]⟩] := by
  rw [List.take_succ_eq_append_getElem h]
  simp [List.getD, h]

/-- Texts as cells. -/
def sc (ss : List ByteArray) : List Value := ss.map Value.string
theorem sc_length (ss : List ByteArray) : (sc ss).length = ss.length := by simp [sc]
theorem sc_append (l r : List ByteArray) : sc (l ++ r) = sc l ++ sc r := by simp [sc]
theorem sc_snoc (l : List ByteArray) (x : ByteArray) : sc (l ++ [x]) = sc l ++ [.string x] := by simp [sc]
theorem news_one (w : World) (x : Value) (t : TypeId) : ∀ j u, [x][j]? = some u → (w.alloc (.cells #[x] t)).cell? ((⟨w.heap.size, 0, none⟩ : Addr).add j) = some u := by
  intro j u hj
  match j, hj with
  | 0, hj => simp at hj; subst hj; simp [Addr.add]
  | _ + 1, hj => simp at hj
theorem str_one (x : ByteArray) : ∀ u ∈ [Value.string x], u.oneCell' = true := by
  intro u hu
  simp at hu
  subst hu
  rfl

theorem owns_strs {w : World} {base n : Nat} {v : Value} {ss : List ByteArray} (h : w.ownsRow base 9 1 v n (sc ss)) : ∃ a cap, v = .slice a n cap ∧ StrsAt w a n cap ss ∧ ∀ x, a = some x → base ≤ x.block ∧ x.block < w.heap.size := by
  have h0 := h
  obtain ⟨hl, hcase⟩ := h
  rw [sc_length, Nat.mul_one] at hl
  rcases hcase with ⟨rfl, rfl⟩ | ⟨g, cap, cur, rfl, hb, hg, hn, hcap, _, _⟩
  · refine ⟨_, _, rfl, ?_, fun x hx => by cases hx⟩
    have : ss = [] := List.eq_nil_of_length_eq_zero hl
    subst this
    exact StrsAt.nil _ _ _ (Nat.zero_le _)
  · refine ⟨_, _, rfl, ⟨hl, hn, hcap, fun j hj => ⟨g, 0, rfl, (Array.getElem?_eq_some_iff.1 hg).1, ?_⟩⟩, fun x hx => by cases hx; exact ⟨hb, (Array.getElem?_eq_some_iff.1 hg).1⟩⟩
    have := h0.cells (g := g) rfl j (.string (ss.getD j ⟨#[]⟩)) (by
      have : j < ss.length := by omega
      simp [sc, List.getD, this])
    have e0 : ((⟨g, 0, none⟩ : Addr).add j) = ⟨g, 0 + j, none⟩ := by unfold Addr.add; split <;> simp_all
    rw [e0] at this
    exact this
/-- What is the call's own stays so while what is new is written. -/
theorem owns_below {w w' : World} {base n m : Nat} {v : Value} {xs : List Value} (h : w.ownsRow base 9 1 v n xs) (hn : w.heap.size ≤ m) (hb : Below m w w') : w'.ownsRow base 9 1 v n xs := by
  refine ⟨h.1, ?_⟩
  rcases h.2 with hn' | ⟨g', cap', cur, rfl, hbg, hgg, rest⟩
  · exact .inl hn'
  · exact .inr ⟨g', cap', cur, rfl, hbg, by rw [hb.block g' (Nat.lt_of_lt_of_le (Array.getElem?_eq_some_iff.1 hgg).1 hn)]; exact hgg, rest⟩
theorem owns_base {w : World} {base base' n : Nat} {v : Value} {xs : List Value} (h : w.ownsRow base 9 1 v n xs) (hb : base' ≤ base) : w.ownsRow base' 9 1 v n xs := by
  refine ⟨h.1, ?_⟩
  rcases h.2 with hn' | ⟨g', cap', cur, rfl, hbg, rest⟩
  · exact .inl hn'
  · exact .inr ⟨g', cap', cur, rfl, Nat.le_trans hb hbg, rest⟩
theorem below_drewN {w w' : World} {n : Nat} (h : Below n w w') (k : Nat) : Below n w (w'.drewN k) := ⟨h.os, h.tape, h.output, h.size, h.block⟩

section
variable {H : Type} {enc : TypeId × Value → H} {W : World} {r : Reach} {b0 : Nat} {v : Value} {d : DataW H} {p : List MemPlace}

set_option maxRecDepth 100000 in
theorem open_str (hv : Value.okWide Tryd.prog W r b0 9 v) (h : DataW.Trod enc Tryd.prog W 0 (fun _ => true) true 9 v d p) :
    ∃ s, v = .string s ∧ s.size ≤ maxLen := by
  obtain ⟨s0, rfl⟩ := okWide_string Tryd.underlying9 hv
  obtain ⟨fuel, hf⟩ := h
  obtain ⟨s, e1, _, hs⟩ := DataW.trod_string Tryd.underlying9 hf
  simp [Value.cells] at e1
  subst e1
  exact ⟨_, rfl, hs⟩

set_option maxRecDepth 100000 in
theorem open_texts (hv : Value.okWide Tryd.prog W r b0 27 v) (h : DataW.Trod enc Tryd.prog W 0 (fun _ => true) true 27 v d p) :
    ∃ a len cap ss, v = .slice a len cap ∧ StrsAt W a len cap ss ∧ ∀ s ∈ ss, s.size ≤ maxLen := by
  obtain ⟨a0, len, cap, rfl⟩ := okWide_slice Tryd.underlying27 hv
  obtain ⟨fuel, hf⟩ := h
  rcases open_strs Tryd.underlying27 Tryd.underlying9 cells9 hf with ⟨hcs, _⟩ | ⟨x, l, c, m, Sx, hcs, _, hl, hm, hmm, _, hcell⟩
  · simp [Value.cells] at hcs
    obtain ⟨rfl, rfl, rfl⟩ := hcs
    exact ⟨_, _, _, [], rfl, StrsAt.nil _ _ _ (Nat.zero_le _), fun s hs => by cases hs⟩
  · simp [Value.cells] at hcs
    obtain ⟨rfl, rfl, rfl⟩ := hcs
    simp only [if_true] at hmm
    subst hmm
    refine ⟨_, _, _, (List.range len).map Sx, rfl, ⟨by simp, hl, hm, fun j hj => ?_⟩, fun s hs => ?_⟩
    · obtain ⟨b, off, spot⟩ := x
      have h0 := (hcell j (by omega)).1
      have hspot : spot = none := by
        have h00 := (hcell 0 (by omega)).1
        simpa [Addr.add] using World.cell?_spot h00
      subst hspot
      have e0 : ((⟨b, off, none⟩ : Addr).add j) = ⟨b, off + j, none⟩ := by unfold Addr.add; split <;> simp_all
      rw [e0] at h0
      refine ⟨b, off, rfl, World.block_lt_of_cell? W _ h0, h0.trans ?_⟩
      simp [List.getD, hj]
    · simp only [List.mem_map, List.mem_range] at hs
      obtain ⟨i, hi, rfl⟩ := hs
      exact (hcell i (by omega)).2
end

end Go.Proofs.YtmlkpfkeeifgeaaDoor.Df
namespace Go.Proofs.YtmlkpfkeeifgeaaDoor.Df
open Go.ChangeShapes Go.WideShapes Go.ChangeAt Go.RowKit

theorem hasB_snoc {l : List ByteArray} {x y : ByteArray} : hasB (l ++ [y]) x = (hasB l x || decide (y = x)) := by simp [hasB]
theorem hasB_at {l : List ByteArray} {k : Nat} (h : k < l.length) : hasB l (l.getD k ⟨#[]⟩) = true := hasB_iff.2 (getD_mem h)
theorem ne_bytes {f x : ByteArray} (h : ¬ f = x) : (f.toList == x.toList) = false ∧ ¬ f.toList = x.toList := by
  have h1 : (f.toList == x.toList) = false := by rw [beq_toList]; simpa using h
  exact ⟨h1, by simpa using h1⟩

set_option maxRecDepth 100000 in
theorem has_any (a : Option Addr) (len cap : Nat) (ss : List ByteArray) (x : ByteArray) (w : World) (h : StrsAt w a len cap ss) :
    Calls Tryd.prog 26 #[.slice a len cap, .string x] w fun e w' => e = .returned (.bool (hasB ss x)) ∧ w' = w := by
  have hcap := h.hcap
  have hle := h.hle
  unfold maxLen at hcap
  have H : Hid (StrsAt w a len cap ss) := h
  have HL : Hid (ss.length = len) := h.hlen
  clear h
  go_enter Tryd.func26, Tryd.ntmps26
  go_wp2
  go_loopw [5] (fun i wr => ∃ k : Nat, k ≤ len ∧ i = .int .i64 k ∧ Hid (hasB (ss.take k) x = false) ∧ wr = w) (fun i _ => len - (intOf i).toNat)
  case atStart => exact ⟨0, Nat.zero_le _, rfl, Hid.mk' rfl, rfl⟩
  case round =>
    obtain ⟨k, hk, rfl, hA, rfl⟩ := hrel
    by_cases hlt : k < len
    · obtain ⟨b, off, rfl, hb, hc⟩ := H.out.at_ k hlt
      have hkl : k < ss.length := by have := HL.out; omega
      have hkn : (k : Int) < (len : Int) := by omega
      have HY : Hid (ss.getD k ⟨#[]⟩ = x → hasB ss x = true) := fun e => by rw [← e]; exact hasB_at hkl
      have HN : Hid (¬ ss.getD k ⟨#[]⟩ = x → hasB (ss.take (k + 1)) x = false) := fun e => by rw [take_snoc hkl, hasB_snoc, hA.out]; simpa using e
      generalize ss.getD k ⟨#[]⟩ = f at *
      clear hA
      by_cases he : f = x
      · have HH := Hid.mk' (HY.out he)
        subst he
        clear HY HN
        go_wp2
        go_ret
        exact ⟨ret_bool HH.out.symm, rfl⟩
      · obtain ⟨e1, e2⟩ := ne_bytes he
        have HH := Hid.mk' (HN.out he)
        clear HY HN he
        go_wp2
        go_roundw
        case rel => exact ⟨k + 1, by omega, by go_num, HH, trivial⟩
        case measure => simp [intOf]; omega
    · obtain rfl : k = len := by omega
      have HH : Hid (hasB ss x = false) := by
        have := hA.out
        rwa [List.take_of_length_le (by have := HL.out; omega)] at this
      clear hA
      go_wp2
      go_ret
      exact ⟨ret_bool HH.out.symm, rfl⟩

theorem take_eq_snoc {l m : List ByteArray} {k : Nat} (h1 : k < l.length) (h2 : k < m.length) (ht : l.take k = m.take k) (he : l.getD k ⟨#[]⟩ = m.getD k ⟨#[]⟩) : l.take (k + 1) = m.take (k + 1) := by
  rw [take_snoc h1, take_snoc h2, ht, he]

set_option maxHeartbeats 1000000 in
set_option maxRecDepth 100000 in
theorem same_any (a a' : Option Addr) (n n' ca cb : Nat) (l m : List ByteArray) (w : World) (h : StrsAt w a n ca l) (h' : StrsAt w a' n' cb m) :
    Calls Tryd.prog 25 #[.slice a n ca, .slice a' n' cb] w fun e w' => e = .returned (.bool (decide (l = m))) ∧ Below w.heap.size w w' := by
  have hcap := h.hcap
  have hle := h.hle
  have hcap' := h'.hcap
  have hle' := h'.hle
  unfold maxLen at hcap hcap'
  have H : Hid (StrsAt w a n ca l) := h
  have H' : Hid (StrsAt w a' n' cb m) := h'
  have HL : Hid (l.length = n ∧ m.length = n') := ⟨h.hlen, h'.hlen⟩
  clear h h'
  by_cases hnn : n = n'
  · subst hnn
    go_enter Tryd.func25, Tryd.ntmps25
    go_wp2
    go_loopw [5] (fun i wr => ∃ k : Nat, k ≤ n ∧ i = .int .i64 k ∧ Hid (l.take k = m.take k) ∧ Below w.heap.size w wr) (fun i _ => n - (intOf i).toNat)
    case atStart => exact ⟨0, Nat.zero_le _, rfl, Hid.mk' rfl, Below.refl _ _⟩
    case round =>
      obtain ⟨k, hk, rfl, hA, hbel⟩ := hrel
      by_cases hlt : k < n
      · obtain ⟨b, off, rfl, hb, hc⟩ := (H.out.below (Nat.le_refl _) hbel).at_ k hlt
        obtain ⟨b', off', rfl, hb', hc'⟩ := (H'.out.below (Nat.le_refl _) hbel).at_ k hlt
        have k1 : k < l.length := by have := HL.out; omega
        have k2 : k < m.length := by have := HL.out; omega
        have hkn : (k : Int) < (n : Int) := by omega
        have HY : Hid (l.getD k ⟨#[]⟩ = m.getD k ⟨#[]⟩ → l.take (k + 1) = m.take (k + 1)) := fun e => take_eq_snoc k1 k2 hA.out e
        have HN : Hid (¬ l.getD k ⟨#[]⟩ = m.getD k ⟨#[]⟩ → ¬ l = m) := fun e e1 => e (by rw [e1])
        generalize l.getD k ⟨#[]⟩ = f at *
        generalize m.getD k ⟨#[]⟩ = f' at *
        clear H H' hA
        by_cases he : f = f'
        · have HH := Hid.mk' (HY.out he)
          subst he
          clear HY HN
          go_wp2
          go_quiet (fail)
          go_wp2
          go_roundw
          case rel => exact ⟨k + 1, by omega, by go_num, HH, below_drewN hbel _⟩
          case measure => simp [intOf]; omega
        · obtain ⟨e1, e2⟩ := ne_bytes he
          have e3 : (f.toList != f'.toList) = true := by simpa using e2
          have HH := Hid.mk' (HN.out he)
          clear HY HN he
          go_wp2
          go_quiet (fail)
          go_wp2
          go_ret
          exact ⟨ret_bool (decide_eq_false HH.out).symm, below_drewN hbel _⟩
      · obtain rfl : k = n := by omega
        have HH : Hid (l = m) := by
          have := hA.out
          rwa [List.take_of_length_le (by have := HL.out; omega), List.take_of_length_le (by have := HL.out; omega)] at this
        clear hA
        go_wp2
        go_ret
        exact ⟨ret_bool (decide_eq_true HH.out).symm, hbel⟩
  · have HH : Hid (¬ l = m) := fun e => hnn (by have := HL.out; rw [e] at this; omega)
    have hd : ((n : Int) != (n' : Int)) = true := by simp; omega
    have hd2 : ¬ (n : Int) = (n' : Int) := by omega
    go_enter Tryd.func25, Tryd.ntmps25
    go_wp2
    go_ret
    exact ⟨ret_bool (decide_eq_false HH.out).symm, Below.refl _ _⟩

end Go.Proofs.YtmlkpfkeeifgeaaDoor.Df
namespace Go.Proofs.YtmlkpfkeeifgeaaDoor.Df
open Go.ChangeShapes Go.WideShapes Go.ChangeAt Go.RowKit

theorem quiet2_same {P : Program} {f : FuncId} {args : Array Value} {w : World} {n m : Nat} {v : Value}
    (h : Calls P f args (w.drewN (n + m)) fun e w' => e = .returned v ∧ w' = w.drewN (n + m)) : Calls P f args (w.drewN (n + m)) fun e w'' => e = .returned v ∧ ∃ k, w'' = w.drewN (n + k) :=
  h.mono fun _ _ ⟨he, hm⟩ => ⟨he, m, hm⟩
theorem quiet1_same {P : Program} {f : FuncId} {args : Array Value} {w : World} {m : Nat} {v : Value}
    (h : Calls P f args (w.drewN m) fun e w' => e = .returned v ∧ w' = w.drewN m) : Calls P f args (w.drewN m) fun e w'' => e = .returned v ∧ ∃ k, w'' = w.drewN k :=
  h.mono fun _ _ ⟨he, hm⟩ => ⟨he, m, hm⟩
theorem nodup_snoc {l : List ByteArray} {x : ByteArray} : (l ++ [x]).Nodup ↔ l.Nodup ∧ x ∉ l := by
  simp only [List.Nodup, List.pairwise_append, List.pairwise_cons, List.mem_cons, List.not_mem_nil, or_false]
  constructor
  · rintro ⟨h1, _, h3⟩
    exact ⟨h1, fun hx => h3 x hx x rfl rfl⟩
  · rintro ⟨h1, h2⟩
    refine ⟨h1, ⟨fun _ h => absurd h (by simp), List.Pairwise.nil⟩, fun a ha b hb e => ?_⟩
    subst hb
    subst e
    exact h2 ha
theorem names_snoc {l : List ByteArray} {k : Nat} (h : k < l.length) (ha : (l.take k).all nameB = true) (hb : nameB (l.getD k ⟨#[]⟩) = true) : (l.take (k + 1)).all nameB = true := by
  rw [take_snoc h, List.all_append, ha, List.all_cons, hb]
  rfl
theorem chk_long {l : List ByteArray} (h : 16 < l.length) : chk l = 13 := by unfold chk; rw [if_pos h]
theorem chk_name {l : List ByteArray} (h : ¬ 16 < l.length) {k : Nat} (hk : k < l.length) (hb : nameB (l.getD k ⟨#[]⟩) = false) : chk l = 11 := by
  unfold chk
  rw [if_neg h, if_neg]
  intro ha
  rw [List.all_eq_true.1 ha _ (getD_mem hk)] at hb
  cases hb
theorem chk_twice {l : List ByteArray} (h : ¬ 16 < l.length) (ha : l.all nameB = true) (hn : ¬ l.Nodup) : chk l = 6 := by
  unfold chk
  rw [if_neg h, if_pos ha, if_neg hn]
theorem chk_good {l : List ByteArray} (h : ¬ 16 < l.length) (ha : l.all nameB = true) (hn : l.Nodup) : chk l = 0 := by
  unfold chk
  rw [if_neg h, if_pos ha, if_pos hn]
theorem nodup_take {l : List ByteArray} (h : l.Nodup) (k : Nat) : (l.take k).Nodup := List.Pairwise.sublist (List.take_sublist k l) h
theorem StrsAt.drewN {w : World} {a : Option Addr} {len cap : Nat} {ss : List ByteArray} (h : StrsAt w a len cap ss) (j : Nat) : StrsAt (w.drewN j) a len cap ss := h.below (Nat.le_refl _) (below_drewN (Below.refl _ _) j)

set_option maxHeartbeats 1000000 in
set_option maxRecDepth 100000 in
theorem rcheck_any (a : Option Addr) (len cap : Nat) (ss : List ByteArray) (w : World) (h : StrsAt w a len cap ss) (hsz : ∀ s ∈ ss, s.size ≤ maxLen) :
    Calls Tryd.prog 66 #[.slice a len cap] w fun e w' => e = .returned (.int .i64 (chk ss)) ∧ Below w.heap.size w w' := by
  have hcap := h.hcap
  have hle := h.hle
  unfold maxLen at hcap
  have H : Hid (StrsAt w a len cap ss) := h
  have HL : Hid (ss.length = len) := h.hlen
  have HS : Hid (∀ s ∈ ss, s.size ≤ maxLen) := hsz
  clear h hsz
  by_cases h16 : 16 < len
  · have h16' : (16 : Int) < (len : Int) := by omega
    have HH : Hid (chk ss = 13) := chk_long (by rw [HL.out]; exact h16)
    go_enter Tryd.func66, Tryd.ntmps66
    go_wp2
    go_ret
    exact ⟨ret_int HH.out.symm, Below.refl _ _⟩
  · have h16' : (len : Int) ≤ 16 := by omega
    have H16 : Hid (¬ 16 < ss.length) := Hid.mk' (by rw [HL.out]; exact h16)
    go_enter Tryd.func66, Tryd.ntmps66
    go_wp2
    go_loopw [3] (fun i wr => ∃ k : Nat, k ≤ len ∧ i = .int .i64 k ∧ Hid ((ss.take k).all nameB = true) ∧ wr = w) (fun i _ => len - (intOf i).toNat)
    case atStart => exact ⟨0, Nat.zero_le _, rfl, Hid.mk' rfl, rfl⟩
    case round =>
      obtain ⟨k, hk, rfl, hA, rfl⟩ := hrel
      by_cases hlt : k < len
      · obtain ⟨b, off, rfl, hb, hc⟩ := H.out.at_ k hlt
        have hkl : k < ss.length := by have := HL.out; omega
        have hkn : (k : Int) < (len : Int) := by omega
        have hnm := rname_any (ss.getD k ⟨#[]⟩) (HS.out _ (getD_mem hkl)) wr
        have HY : Hid (nameB (ss.getD k ⟨#[]⟩) = true → (ss.take (k + 1)).all nameB = true) := fun e => names_snoc hkl hA.out e
        have HN : Hid (nameB (ss.getD k ⟨#[]⟩) = false → chk ss = 11) := fun e => chk_name H16.out hkl e
        generalize ss.getD k ⟨#[]⟩ = f at *
        clear hA
        cases hr : nameB f with
        | true =>
          have HH := Hid.mk' (HY.out hr)
          rw [hr] at hnm
          clear HY HN hr
          go_wp2_with (go_at_call 92; refine hnm.mono ?_; rintro e w' ⟨rfl, rfl⟩)
          go_roundw
          case rel => exact ⟨k + 1, by omega, by go_num, HH, trivial⟩
          case measure => simp [intOf]; omega
        | false =>
          have HH := Hid.mk' (HN.out hr)
          rw [hr] at hnm
          clear HY HN hr
          go_wp2_with (go_at_call 92; refine hnm.mono ?_; rintro e w' ⟨rfl, rfl⟩)
          go_ret
          exact ⟨ret_int HH.out.symm, Below.refl _ _⟩
      · obtain rfl : k = len := by omega
        have HA : Hid (ss.all nameB = true) := by
          have := hA.out
          rwa [List.take_of_length_le (by have := HL.out; omega)] at this
        clear hA
        go_wp2
        go_loopw [5] (fun i w2 => ∃ j : Nat, j ≤ k ∧ i = .int .i64 j ∧ Hid ((ss.take j).Nodup) ∧ Below wr.heap.size wr w2) (fun i _ => k - (intOf i).toNat)
        case atStart => exact ⟨0, Nat.zero_le _, rfl, Hid.mk' (by simp), Below.refl _ _⟩
        case round =>
          obtain ⟨j, hj, rfl, hD, hbel⟩ := hrel
          by_cases hjl : j < k
          · have hS := H.out.below (Nat.le_refl _) hbel
            have hjs : j < ss.length := by have := HL.out; omega
            obtain ⟨b, off, rfl, hb, hc⟩ := hS.at_ j hjl
            have hjn : (j : Int) < (k : Int) := by omega
            have hjc : (j : Int) ≤ (cap : Int) := by omega
            have hh : ∀ (f : ByteArray) (q : Nat), Calls Tryd.prog 26 #[.slice (some ⟨b, off, none⟩) j cap, .string f] (_ : World) _ := fun f q => has_any _ _ _ _ f (World.drewN _ q) ((hS.take (Nat.le_of_lt hjl)).drewN q)
            have HY : Hid (hasB (ss.take j) (ss.getD j ⟨#[]⟩) = true → chk ss = 6) := fun e => chk_twice H16.out HA.out (fun hn => by
              have := nodup_take hn (j + 1)
              rw [take_snoc hjs, nodup_snoc] at this
              exact this.2 (hasB_iff.1 e))
            have HN : Hid (hasB (ss.take j) (ss.getD j ⟨#[]⟩) = false → (ss.take (j + 1)).Nodup) := fun e => by
              rw [take_snoc hjs, nodup_snoc]
              exact ⟨hD.out, hasB_not.1 e⟩
            generalize ss.getD j ⟨#[]⟩ = f at *
            have hhf := hh f
            clear hD hh hS
            cases hr : hasB (ss.take j) f with
            | true =>
              have HH := Hid.mk' (HY.out hr)
              rw [hr] at hhf
              clear HY HN hr
              go_wp2
              go_quiet (first | (go_at_call 26; exact quiet1_same (hhf _)))
              go_wp2
              go_ret
              exact ⟨ret_int HH.out.symm, below_drewN hbel _⟩
            | false =>
              have HH := Hid.mk' (HN.out hr)
              rw [hr] at hhf
              clear HY HN hr
              go_wp2
              go_quiet (first | (go_at_call 26; exact quiet1_same (hhf _)))
              go_wp2
              go_roundw
              case rel => exact ⟨j + 1, by omega, by go_num, HH, below_drewN hbel _⟩
              case measure => simp [intOf]; omega
          · obtain rfl : j = k := by omega
            have HH : Hid (chk ss = 0) := by
              have := hD.out
              rw [List.take_of_length_le (by have := HL.out; omega)] at this
              exact chk_good H16.out HA.out this
            clear hD
            go_wp2
            go_ret
            exact ⟨ret_int HH.out.symm, hbel⟩

end Go.Proofs.YtmlkpfkeeifgeaaDoor.Df
namespace Go.Proofs.YtmlkpfkeeifgeaaDoor.Df
open Go.ChangeShapes Go.WideShapes Go.ChangeAt Go.RowKit Go.Maps

/-- An element reads as nothing. -/
def R0 : Value → Option (DataW Unit × List MemPlace) := fun _ => some (.nil, [])
def lits (L : List ByteArray) : List Lit := L.map fun s => Lit.string s.data.toList
def setD (L : List ByteArray) : DataW Unit := Maps.setOf .nil (lits L)
theorem keyed9 : Keyed Tryd.prog 9 := string_keyed Tryd.underlying9
theorem zero3 (w : World) : (zeroValue 3).run Tryd.prog w = .ok (.int .i64 0) w := by kernel_rfl
theorem keyOf9 {s : ByteArray} (hs : s.size ≤ maxLen) : keyOf Tryd.prog 9 (.string s) = some (.string s.data.toList) := WideMaps.keyOf_string_mk Tryd.underlying9 hs
theorem lits_key (L : List ByteArray) : ∀ x ∈ lits L, WideAt.IsKeyLit x := by
  intro x hx
  obtain ⟨s, _, rfl⟩ := List.mem_map.1 hx
  trivial
theorem sameKey_str (x y : ByteArray) : (Lit.string x.data.toList).sameKey (.string y.data.toList) = decide (x = y) := by
  by_cases h : x = y
  · subst h
    rw [WideAt.sameKey_self (show WideAt.IsKeyLit (.string x.data.toList) from trivial)]
    simp
  · rw [Maps.sameKey_ne (fun e => h (by injection e with e1; exact ByteArray.ext (Array.toList_inj.1 e1)))]
    simp [h]
theorem has_setD (L : List ByteArray) (x : ByteArray) : Maps.has (setD L) (.string x.data.toList) = hasB L x := by
  unfold setD
  rw [Maps.has_setOf _ _ _ (lits_key L)]
  unfold lits hasB
  rw [List.any_map]
  congr 1
  funext y
  exact sameKey_str y x
theorem setD_snoc (L : List ByteArray) (x : ByteArray) : setD (L ++ [x]) = (setD L).put (.string x.data.toList) .nil := by
  unfold setD lits
  rw [List.map_append]
  exact Maps.setOf_snoc _ _ _
theorem tidy_setD (L : List ByteArray) : Maps.Tidy (setD L) := Maps.tidy_setOf _ _ (lits_key L)
def sz (L : List ByteArray) : Nat := Maps.size (setD L)
theorem sz_snoc (L : List ByteArray) (x : ByteArray) : sz (L ++ [x]) = if hasB L x then sz L else sz L + 1 := by
  unfold sz
  rw [setD_snoc, Maps.size_put (tidy_setD L), has_setD]
theorem sz_both : ∀ (n : Nat) (L : List ByteArray), L.length = n → sz L ≤ L.length ∧ (sz L = L.length ↔ L.Nodup)
  | 0, L, h => by
    have : L = [] := List.eq_nil_of_length_eq_zero h
    subst this
    exact ⟨Nat.le_refl _, by simp; rfl⟩
  | n + 1, L, h => by
    rcases List.eq_nil_or_concat L with rfl | ⟨L', x, rfl⟩
    · simp at h
    · rw [List.concat_eq_append] at *
      have hl : L'.length = n := by simpa using h
      obtain ⟨h1, h2⟩ := sz_both n L' hl
      rw [sz_snoc, nodup_snoc, List.length_append, List.length_singleton]
      cases hx : hasB L' x with
      | true =>
        rw [if_pos rfl]
        refine ⟨by omega, ⟨fun e => by omega, fun e => absurd (hasB_iff.1 hx) e.2⟩⟩
      | false =>
        rw [if_neg (by simp)]
        refine ⟨by omega, ⟨fun e => ⟨h2.1 (by omega), hasB_not.1 hx⟩, fun e => by rw [h2.2 e.1]⟩⟩
theorem sz_le (L : List ByteArray) : sz L ≤ L.length := (sz_both _ L rfl).1
theorem sz_nodup (L : List ByteArray) : sz L = L.length ↔ L.Nodup := (sz_both _ L rfl).2

/-- Block g is a map whose keys are L's names. -/
def MAt (w : World) (g : Nat) (L : List ByteArray) : Prop := w.ownsMap Tryd.prog 9 R0 g L.length (setD L)
theorem MAt.below {w w' : World} {g n : Nat} {L : List ByteArray} (h : MAt w g L) (hn : w.heap.size ≤ n) (hb : Below n w w') : MAt w' g L := by
  obtain ⟨es, cl, h3, r⟩ := h
  exact ⟨es, cl, by rw [hb.block g (Nat.lt_of_lt_of_le (Array.getElem?_eq_some_iff.1 h3).1 hn)]; exact h3, r⟩
theorem MAt.look {w : World} {g : Nat} {L : List ByteArray} (h : MAt w g L) {x : ByteArray} (hx : x.size ≤ maxLen) : ∃ v, (Instr.lookup 114 (.map (some g)) (.string x) true).run Tryd.prog w = .ok (.tuple #[v, .bool (hasB L x)]) w := by
  obtain ⟨v, ps, hrun, _⟩ := World.ownsMap.look_ok h keyed9 Tryd.underlying114 (zero3 w) (zd := .nil) (zp := []) rfl (keyOf9 hx)
  rw [has_setD] at hrun
  exact ⟨v, hrun⟩
theorem run_makeMap_hint (n : Int) (w : World) : (Instr.makeMap 114 (some (.int .i64 n))).run Tryd.prog w = .ok (.map (some w.heap.size)) (w.alloc (.map #[] 0)) := by
  simp [Instr.makeMap, run_underlying Tryd.underlying114, asInt, asIntOf, Result.andThen]

set_option maxRecDepth 100000 in
theorem places_any (a : Option Addr) (len cap : Nat) (ss : List ByteArray) (w : World) (h : StrsAt w a len cap ss) (h20 : len ≤ 20) (hsz : ∀ s ∈ ss, s.size ≤ maxLen) :
    Calls Tryd.prog 81 #[.slice a len cap] w fun e w' => e = .returned (.map (some w.heap.size)) ∧ MAt w' w.heap.size ss ∧ Below w.heap.size w w' := by
  have hcap := h.hcap
  have hle := h.hle
  unfold maxLen at hcap
  have H : Hid (StrsAt w a len cap ss) := h
  have HL : Hid (ss.length = len) := h.hlen
  have HS : Hid (∀ s ∈ ss, s.size ≤ maxLen) := hsz
  clear h hsz
  have hmm := run_makeMap_hint
  go_enter Tryd.func81, Tryd.ntmps81
  go_wp2
  go_loopw [11] (fun i wr => ∃ k : Nat, k ≤ len ∧ i = .int .i64 k ∧ wr.ownsMap Tryd.prog 9 R0 w.heap.size k (setD (ss.take k)) ∧ Below w.heap.size w wr) (fun i _ => len - (intOf i).toNat)
  case atStart => exact ⟨0, Nat.zero_le _, rfl, World.ownsMap_made _ _ _ _, (Below.refl _ _).alloc (Nat.le_refl _) _⟩
  case round =>
    obtain ⟨k, hk, rfl, hown, hbel⟩ := hrel
    by_cases hlt : k < len
    · obtain ⟨b, off, rfl, hb, hc0⟩ := H.out.at_ k hlt
      have hc := (hbel.cell (p := ⟨b, off + k, none⟩) hb).trans hc0
      have hkl : k < ss.length := by have := HL.out; omega
      have hkn : (k : Int) < (len : Int) := by omega
      have hkey := keyOf9 (HS.out _ (getD_mem hkl))
      have HN : Hid (setD (ss.take (k + 1)) = (setD (ss.take k)).put (.string (ss.getD k ⟨#[]⟩).data.toList) .nil) := Hid.mk' (by rw [take_snoc hkl, setD_snoc])
      generalize ss.getD k ⟨#[]⟩ = f at *
      clear hc0
      go_wp2_with (first
        | (at_mapUpdate; refine wpList_mapUpdate_own _ rfl _ _ _ 114 rfl 9 3 keyed9 Tryd.underlying114 R0 w.heap.size k _ rfl hown (by unfold maxLen; omega) _ _ _ rfl rfl hkey .nil [] rfl ?_; intro w1 hown1 hgrow1))
      have R1 : w1.ownsMap Tryd.prog 9 R0 w.heap.size (k + 1) (setD (ss.take (k + 1))) := by rw [HN.out]; exact hown1
      have R2 := hbel.grown hgrow1 hbel.size (fun j hj => by cases hj; exact Nat.le_refl _)
      clear hown1 hgrow1 hown hbel hkey HN
      go_wp2
      go_roundw
      case rel => exact ⟨k + 1, by omega, by go_num, R1, R2⟩
      case measure => simp [intOf]; omega
    · obtain rfl : k = len := by omega
      have HH : Hid (MAt wr w.heap.size ss) := by
        rw [List.take_of_length_le (by have := HL.out; omega)] at hown
        have := HL.out
        rw [← this] at hown
        exact hown
      clear hown
      go_wp2
      go_ret
      exact ⟨rfl, HH.out, hbel⟩

set_option maxHeartbeats 1000000 in
set_option maxRecDepth 100000 in
theorem check_any (a : Option Addr) (len cap : Nat) (ss : List ByteArray) (w : World) (h : StrsAt w a len cap ss) (hsz : ∀ s ∈ ss, s.size ≤ maxLen) :
    Calls Tryd.prog 52 #[.slice a len cap] w fun e w' => e = .returned (.int .i64 (chk ss)) ∧ Below w.heap.size w w' := by
  have hcap := h.hcap
  have hle := h.hle
  unfold maxLen at hcap
  have H : Hid (StrsAt w a len cap ss) := h
  have HL : Hid (ss.length = len) := h.hlen
  have HS : Hid (∀ s ∈ ss, s.size ≤ maxLen) := hsz
  clear h hsz
  by_cases h16 : 16 < len
  · have h16' : (16 : Int) < (len : Int) := by omega
    have HH : Hid (chk ss = 13) := chk_long (by rw [HL.out]; exact h16)
    go_enter Tryd.func52, Tryd.ntmps52
    go_wp2
    go_ret
    exact ⟨ret_int HH.out.symm, Below.refl _ _⟩
  · have h16' : (len : Int) ≤ 16 := by omega
    have H16 : Hid (¬ 16 < ss.length) := Hid.mk' (by rw [HL.out]; exact h16)
    go_enter Tryd.func52, Tryd.ntmps52
    go_wp2
    go_loopw [10] (fun i wr => ∃ k : Nat, k ≤ len ∧ i = .int .i64 k ∧ Hid ((ss.take k).all nameB = true) ∧ wr = w) (fun i _ => len - (intOf i).toNat)
    case atStart => exact ⟨0, Nat.zero_le _, rfl, Hid.mk' rfl, rfl⟩
    case round =>
      obtain ⟨k, hk, rfl, hA, rfl⟩ := hrel
      by_cases hlt : k < len
      · obtain ⟨b, off, rfl, hb, hc⟩ := H.out.at_ k hlt
        have hkl : k < ss.length := by have := HL.out; omega
        have hkn : (k : Int) < (len : Int) := by omega
        have hnm := name_any (ss.getD k ⟨#[]⟩) (HS.out _ (getD_mem hkl)) wr
        have HY : Hid (nameB (ss.getD k ⟨#[]⟩) = true → (ss.take (k + 1)).all nameB = true) := fun e => names_snoc hkl hA.out e
        have HN : Hid (nameB (ss.getD k ⟨#[]⟩) = false → chk ss = 11) := fun e => chk_name H16.out hkl e
        generalize ss.getD k ⟨#[]⟩ = f at *
        clear hA
        cases hr : nameB f with
        | true =>
          have HH := Hid.mk' (HY.out hr)
          rw [hr] at hnm
          clear HY HN hr
          go_wp2_with (go_at_call 80; refine hnm.mono ?_; rintro e w' ⟨rfl, rfl⟩)
          go_roundw
          case rel => exact ⟨k + 1, by omega, by go_num, HH, trivial⟩
          case measure => simp [intOf]; omega
        | false =>
          have HH := Hid.mk' (HN.out hr)
          rw [hr] at hnm
          clear HY HN hr
          go_wp2_with (go_at_call 80; refine hnm.mono ?_; rintro e w' ⟨rfl, rfl⟩)
          go_ret
          exact ⟨ret_int HH.out.symm, Below.refl _ _⟩
      · obtain rfl : k = len := by omega
        have HA : Hid (ss.all nameB = true) := by
          have := hA.out
          rwa [List.take_of_length_le (by have := HL.out; omega)] at this
        have hp := places_any a k cap ss wr H.out (by omega) HS.out
        have hszl := sz_le ss
        rw [HL.out] at hszl
        have HY : Hid (sz ss < k → chk ss = 6) := fun e => chk_twice H16.out HA.out (fun hn => by have := (sz_nodup ss).2 hn; have := HL.out; omega)
        have HN : Hid (¬ sz ss < k → chk ss = 0) := fun e => chk_good H16.out HA.out ((sz_nodup ss).1 (by have := HL.out; omega))
        clear hA HA
        go_wp2_with fail
        refine hp.mono ?_
        rintro e w2 ⟨rfl, hM, hb2⟩
        by_cases hs : sz ss < k
        · have HH := Hid.mk' (HY.out hs)
          unfold sz at hs
          clear HY HN hp hszl
          go_wp2_with (at_len; refine wpList_len_own _ rfl _ 114 rfl 9 3 Tryd.underlying114 R0 _ _ _ rfl hM ?_)
          go_ret
          exact ⟨ret_int HH.out.symm, hb2⟩
        · have HH := Hid.mk' (HN.out hs)
          unfold sz at hs
          clear HY HN hp hszl
          go_wp2_with (at_len; refine wpList_len_own _ rfl _ 114 rfl 9 3 Tryd.underlying114 R0 _ _ _ rfl hM ?_)
          go_ret
          exact ⟨ret_int HH.out.symm, hb2⟩

theorem may_ne1 {o n : List ByteArray} (h : ¬ chk o = 0) : may o n = false := by unfold may; simp [h]
theorem may_ne2 {o n : List ByteArray} (h : ¬ chk n = 0) : may o n = false := by unfold may; simp [h]
theorem may_both {o n : List ByteArray} (h1 : chk o = 0) (h2 : chk n = 0) : may o n = true := by unfold may; simp [h1, h2]
theorem chk_cases (l : List ByteArray) : chk l = 0 ∨ (chk l = 13 ∨ chk l = 11 ∨ chk l = 6) := by unfold chk; split <;> (try split) <;> (try split) <;> simp

def CloAt (w : World) (p : Nat) (L : List ByteArray) : Prop := ∃ g, p < w.heap.size ∧ w.cell? ⟨p, 0, none⟩ = some (.map (some g)) ∧ MAt w g L
theorem CloAt.below {w w' : World} {p n : Nat} {L : List ByteArray} (h : CloAt w p L) (hn : w.heap.size ≤ n) (hb : Below n w w') : CloAt w' p L := by
  obtain ⟨g, h1, h2, h3⟩ := h
  exact ⟨g, Nat.lt_of_lt_of_le h1 hb.size, (hb.cell (p := ⟨p, 0, none⟩) (Nat.lt_of_lt_of_le h1 hn)).trans h2, h3.below hn hb⟩

end Go.Proofs.YtmlkpfkeeifgeaaDoor.Df
