/-
  Capacity, and who may leave (package guard's, and the document's own). Conditions: a slice reads as the listed ints; of the document's own at most 4000, and connections within 1000.
-/
import Derived.Test.YtmlkpfkeeifgeaaDoorRows
import Derived.WalkKit
import Derived.ProofKit
import Derived.OpenShut
import Derived.WalkLawsBesides
import Derived.WalkSpells
import Derived.Deep.QuietTactic
import Derived.BigQuiet
import Derived.Laws.AppendOwnNone
import Derived.Laws.OwnMore
import Derived.Lib.SmallJoins
namespace Go.Proofs.YtmlkpfkeeifgeaaDoor.Gd

/-- How many are Active. -/
def act : List Int → Nat
  | [] => 0
  | x :: l => (if x = 0 then 1 else 0) + act l
/-- The capacity of so many Active hosts. -/
def capI (h e : Int) : Int := if h ≤ 0 ∨ e ≤ 0 then 0 else if 9223372036854775807 / e < h then 9223372036854775807 else h * e
/-- Is there such a place? -/
def has (n : Nat) (i : Int) : Bool := decide (0 ≤ i) && decide (i < (n : Int))
/-- May it leave? -/
def mayB (zs : List Int) (i e g : Int) : Bool := has zs.length i && (!(zs.getD i.toNat 0 == 0) || decide (g ≤ capI ((act zs : Int) - 1) e))
/-- One of the place i that is Active. -/
def one (zs : List Int) (i : Int) : Nat := if (has zs.length i && (zs.getD i.toNat 0 == 0)) = true then 1 else 0
/-- How many are left, when all that may have left. -/
def down : Nat → Int → Int → Nat
  | 0, _, _ => 0
  | n + 1, e, g => if g ≤ capI (n : Int) e then down n e g else n + 1
/-- The first that may leave. -/
def firstI (zs : List Int) (e g : Int) : List Int → Int × Bool
  | [] => (0, false)
  | x :: l => if mayB zs x e g = true then (x, true) else firstI zs e g l
/-- A list without the place i. -/
def rm : List Int → Int → List Int
  | [], _ => []
  | x :: l, i => if i = 0 then rm l (i - 1) else x :: rm l (i - 1)
def pos (e : Int) : Int := if 0 < e then e else 0

theorem take_snoc (l : List Int) (k : Nat) (h : k < l.length) : l.take (k + 1) = l.take k ++ [l.getD k 0] := by
  rw [List.take_add_one, List.getElem?_eq_getElem h]
  simp [List.getD, List.getElem?_eq_getElem h]
theorem act_append (l r : List Int) : act (l ++ r) = act l + act r := by
  induction l with
  | nil => simp [act]
  | cons x l ih => simp only [List.cons_append, act, ih]; omega
theorem act_le (l : List Int) : act l ≤ l.length := by
  induction l with
  | nil => simp [act]
  | cons x l ih => simp only [act, List.length_cons]; split <;> omega
theorem act_yes (l : List Int) {x : Int} (h : x = 0) : act (l ++ [x]) = act l + 1 := by rw [act_append]; simp [act, h]
theorem act_no (l : List Int) {x : Int} (h : ¬ x = 0) : act (l ++ [x]) = act l := by rw [act_append]; simp [act, h]
theorem act_set (l : List Int) (k : Nat) (hk : k < l.length) : act (l.set k 1) + (if l.getD k 0 = 0 then 1 else 0) = act l := by
  induction l generalizing k with
  | nil => simp at hk
  | cons x l ih =>
    cases k with
    | zero => simp only [List.set_cons_zero, act, List.getD_cons_zero]; rw [if_neg (by decide : ¬ (1 : Int) = 0)]; omega
    | succ k =>
      simp only [List.set_cons_succ, act, List.getD_cons_succ]
      have := ih k (by simpa using hk)
      omega

theorem capI_none {h e : Int} (hh : h ≤ 0 ∨ e ≤ 0) : capI h e = 0 := by unfold capI; rw [if_pos hh]
theorem capI_top {h e : Int} (h0 : ¬ h ≤ 0) (h1 : ¬ e ≤ 0) (h2 : 9223372036854775807 / e < h) : capI h e = 9223372036854775807 := by unfold capI; rw [if_neg (by omega), if_pos h2]
theorem capI_mul {h e : Int} (h0 : ¬ h ≤ 0) (h1 : ¬ e ≤ 0) (h2 : ¬ 9223372036854775807 / e < h) : capI h e = h * e := by unfold capI; rw [if_neg (by omega), if_neg h2]
theorem mul_in {h e : Int} (h0 : ¬ h ≤ 0) (h1 : ¬ e ≤ 0) (h2 : ¬ 9223372036854775807 / e < h) : 0 ≤ h * e ∧ h * e ≤ 9223372036854775807 := by
  refine ⟨Int.mul_nonneg (by omega) (by omega), ?_⟩
  have h3 : h ≤ 9223372036854775807 / e := by omega
  exact Int.le_trans (Int.mul_le_mul_of_nonneg_right h3 (by omega)) (Int.ediv_mul_le _ (by omega))
theorem capI_small {h e : Int} (h0 : 0 ≤ h) (hh : h ≤ 4000) (he : e ≤ 1000) : capI h e = h * pos e := by
  unfold pos
  by_cases h1 : e ≤ 0
  · rw [capI_none (.inr h1), if_neg (by omega), Int.mul_zero]
  · rw [if_pos (by omega)]
    by_cases h2 : h ≤ 0
    · rw [capI_none (.inl h2)]
      obtain rfl : h = 0 := by omega
      simp
    · refine capI_mul h2 h1 ?_
      have : (4000 : Int) ≤ 9223372036854775807 / e := (Int.le_ediv_iff_mul_le (by omega)).2 (by omega)
      omega
theorem capI_lo (h e : Int) : 0 ≤ capI h e := by
  unfold capI
  split
  · omega
  · split
    · omega
    · exact Int.mul_nonneg (by omega) (by omega)
theorem capI_neg {h e : Int} (hh : h ≤ 0) : capI h e = 0 := capI_none (.inl hh)

theorem has_iff {n : Nat} {i : Int} : has n i = true ↔ 0 ≤ i ∧ i < (n : Int) := by simp [has]
theorem has_false {n : Nat} {i : Int} (h : ¬ (0 ≤ i ∧ i < (n : Int))) : has n i = false := by
  cases hb : has n i with
  | false => rfl
  | true => exact absurd (has_iff.1 hb) h
theorem one_le (zs : List Int) (i : Int) : one zs i ≤ act zs := by
  unfold one
  split
  · rename_i h
    simp [has] at h
    obtain ⟨⟨h0, h1⟩, h2⟩ := h
    have hs := act_set zs i.toNat (by omega)
    have h3 : zs.getD i.toNat 0 = 0 := by simpa [List.getD] using h2
    rw [if_pos h3] at hs
    omega
  · omega

theorem down_le (n : Nat) (e g : Int) : down n e g ≤ n := by
  induction n with
  | zero => simp [down]
  | succ n ih => simp only [down]; split <;> omega
theorem down_step {n : Nat} {e g : Int} (h : g ≤ capI (n : Int) e) : down (n + 1) e g = down n e g := by simp [down, h]
theorem down_stay {n : Nat} {e g : Int} (h : ¬ g ≤ capI (n : Int) e) : down (n + 1) e g = n + 1 := by simp only [down]; rw [if_neg h]

theorem mayB_out {zs : List Int} {i e g : Int} (h : ¬ (0 ≤ i ∧ i < (zs.length : Int))) : mayB zs i e g = false := by unfold mayB; rw [has_false h]; rfl
theorem mayB_other {zs : List Int} {i e g : Int} (h : 0 ≤ i ∧ i < (zs.length : Int)) (hx : ¬ zs.getD i.toNat 0 = 0) : mayB zs i e g = true := by
  unfold mayB
  rw [has_iff.2 h]
  simp only [Bool.true_and, Bool.or_eq_true, Bool.not_eq_true', beq_eq_false_iff_ne, ne_eq]
  exact .inl hx
theorem mayB_act {zs : List Int} {i e g : Int} (h : 0 ≤ i ∧ i < (zs.length : Int)) (hx : zs.getD i.toNat 0 = 0) : mayB zs i e g = decide (g ≤ capI ((act zs : Int) - 1) e) := by
  unfold mayB
  rw [has_iff.2 h, hx]
  simp

theorem rm_out (l : List Int) {i : Int} (h : i < 0) : rm l i = l := by
  induction l generalizing i with
  | nil => rfl
  | cons x l ih => simp only [rm]; rw [if_neg (by omega), ih (by omega)]
theorem rm_snoc (l : List Int) (x i : Int) : rm (l ++ [x]) i = if (l.length : Int) = i then rm l i else rm l i ++ [x] := by
  induction l generalizing i with
  | nil => simp only [List.nil_append, rm, List.length_nil]; split <;> split <;> first | rfl | (exfalso; omega)
  | cons y l ih =>
    simp only [List.cons_append, rm, ih, List.length_cons]
    by_cases h0 : i = 0
    · rw [if_pos h0, if_pos h0, if_neg (by omega), if_neg (by omega)]
    · rw [if_neg h0, if_neg h0]
      by_cases h1 : (l.length : Int) = i - 1
      · rw [if_pos h1, if_pos (by omega)]
      · rw [if_neg h1, if_neg (by omega)]
        rfl
theorem rm_len (l : List Int) (i : Int) : (rm l i).length ≤ l.length := by
  induction l generalizing i with
  | nil => simp [rm]
  | cons x l ih =>
    have := ih (i - 1)
    simp only [rm]
    split <;> simp only [List.length_cons] <;> omega
theorem rm_act (l : List Int) (i : Int) : act (rm l i) + one l i = act l := by
  induction l generalizing i with
  | nil => simp [rm, act, one, has]
  | cons x l ih =>
    have hi := ih (i - 1)
    simp only [rm]
    by_cases h0 : i = 0
    · subst h0
      rw [if_pos rfl, rm_out l (by omega)]
      unfold one
      by_cases hx : x = 0
      · subst hx
        simp [has, act]
        omega
      · simp [has, act, hx]
    · rw [if_neg h0]
      simp only [act]
      have e1 : one (x :: l) i = one l (i - 1) := by
        unfold one
        by_cases h1 : 0 < i
        · have e2 : i.toNat = (i - 1).toNat + 1 := by omega
          have e3 : has (x :: l).length i = has l.length (i - 1) := by
            simp only [has, List.length_cons]
            congr 1 <;> (apply decide_eq_decide.2; omega)
          rw [e3, e2, List.getD_cons_succ]
        · rw [has_false (by omega), has_false (by omega)]
          rfl
      rw [e1]
      omega

theorem mul_le {h k e : Int} (hk : h ≤ k) (he : 0 ≤ e) : h * e ≤ k * e := Int.mul_le_mul_of_nonneg_right hk he

end Go.Proofs.YtmlkpfkeeifgeaaDoor.Gd
namespace Go.Proofs.YtmlkpfkeeifgeaaDoor.Gd
open Go.ChangeShapes Go.WideShapes Go.ChangeAt Go.RowKit

theorem ret_int {k : IntKind} {a b : Int} (h : a = b) : Ending.returned (.int k a) = .returned (.int k b) := by rw [h]
theorem ret_bool {a b : Bool} (h : a = b) : Ending.returned (.bool a) = .returned (.bool b) := by rw [h]
theorem ret_str {a b : ByteArray} (h : a = b) : Ending.returned (.string a) = .returned (.string b) := by rw [h]
theorem ret_ib {a b : Int} {p q : Bool} (h : a = b) (h' : p = q) : Ending.returned (.tuple #[.int .i64 a, .bool p]) = .returned (.tuple #[.int .i64 b, .bool q]) := by rw [h, h']
theorem ret_ii {a b p q : Int} (h : a = b) (h' : p = q) : Ending.returned (.tuple #[.int .i64 a, .int .i64 p]) = .returned (.tuple #[.int .i64 b, .int .i64 q]) := by rw [h, h']

/-- The slice (a, len, cap) reads as the ints zs. -/
structure IntsAt (w : World) (a : Option Addr) (len cap : Nat) (zs : List Int) : Prop where
  hlen : zs.length = len
  hle : len ≤ cap
  hcap : cap ≤ maxLen
  at_ : ∀ j, j < len → ∃ b off, a = some ⟨b, off, none⟩ ∧ b < w.heap.size ∧ w.cell? ⟨b, off + j, none⟩ = some (.int .i64 (zs.getD j 0))

theorem IntsAt.below {w w' : World} {a : Option Addr} {len cap : Nat} {zs : List Int} (h : IntsAt w a len cap zs) (hb : Below w.heap.size w w') : IntsAt w' a len cap zs := by
  refine ⟨h.hlen, h.hle, h.hcap, fun j hj => ?_⟩
  obtain ⟨b, off, e, hlt, hc⟩ := h.at_ j hj
  exact ⟨b, off, e, Nat.lt_of_lt_of_le hlt hb.size, (hb.cell (p := ⟨b, off + j, none⟩) hlt).trans hc⟩
theorem IntsAt.take {w : World} {a : Option Addr} {len cap : Nat} {zs : List Int} (h : IntsAt w a len cap zs) {n : Nat} (hn : n ≤ len) : IntsAt w a n cap (zs.take n) := by
  refine ⟨by rw [List.length_take, h.hlen]; omega, Nat.le_trans hn h.hle, h.hcap, fun j hj => ?_⟩
  obtain ⟨b, off, e, hlt, hc⟩ := h.at_ j (by omega)
  refine ⟨b, off, e, hlt, hc.trans ?_⟩
  simp [List.getD, hj]

theorem own : ownKnob Tryd.prog.godebug = none := by kernel_rfl
theorem laidOut : laidOutB Tryd.prog = true := by kernel_rfl
theorem cells3 : Tryd.prog.cellsOf 3 = 1 := by kernel_rfl

theorem IntsAt.drew {w : World} {a : Option Addr} {len cap : Nat} {zs : List Int} (h : IntsAt w a len cap zs) : IntsAt w.drew a len cap zs := h.below (Below.refl _ _).drew

end Go.Proofs.YtmlkpfkeeifgeaaDoor.Gd
namespace Go.Proofs.YtmlkpfkeeifgeaaDoor.Gd
open Go.ChangeShapes Go.WideShapes Go.ChangeAt Go.RowKit

/-- An int. -/
def In (d : Int) : Prop := -9223372036854775808 ≤ d ∧ d ≤ 9223372036854775807

set_option maxHeartbeats 1000000 in
theorem active_any (a : Option Addr) (len cap : Nat) (zs : List Int) (w : World) (hr : IntsAt w a len cap zs) :
    Calls Tryd.prog 79 #[.slice a len cap] w fun e w' => e = .returned (.int .i64 (act zs : Nat)) ∧ w' = w := by
  obtain ⟨hz, hle, hcap, hc⟩ := hr
  unfold maxLen at hcap
  go_enter Tryd.func79, Tryd.ntmps79
  go_wp2
  go_loop [3, 8] (fun c i => ∃ k : Nat, k ≤ len ∧ i = .int .i64 k ∧ c = .int .i64 (act (zs.take k) : Nat)) (fun _ i => len - (intOf i).toNat)
  case atStart => exact ⟨0, Nat.zero_le _, rfl, rfl⟩
  case round =>
    obtain ⟨k, hk, rfl, rfl⟩ := hrel
    have hnk : act (zs.take k) ≤ k := by have := act_le (zs.take k); rw [List.length_take] at this; omega
    by_cases hlt : k < len
    · obtain ⟨b, off, rfl, _, hcell⟩ := hc k hlt
      have hs := take_snoc zs k (by omega)
      obtain ⟨x, hx⟩ : ∃ x, zs.getD k 0 = x := ⟨_, rfl⟩
      rw [hx] at hcell hs
      obtain ⟨M, hM⟩ : ∃ M, act (zs.take k) = M := ⟨_, rfl⟩
      rw [hM] at hnk
      by_cases h0 : x = 0
      · have HS : Hid (act (zs.take (k + 1)) = M + 1) := by rw [hs, act_yes _ h0, hM]; exact rfl
        subst h0
        rw [hM]
        clear hc hx hs hM
        go_wp2
        go_round
        case rel => exact ⟨k + 1, by omega, by go_num, by rw [HS.out]; go_num⟩
        case measure => simp [intOf]; omega
      · have HS : Hid (act (zs.take (k + 1)) = M) := by rw [hs, act_no _ h0, hM]; exact rfl
        rw [hM]
        clear hc hx hs hM
        go_wp2
        go_round
        case rel => exact ⟨k + 1, by omega, by go_num, by rw [HS.out]⟩
        case measure => simp [intOf]; omega
    · have e : zs.take k = zs := List.take_of_length_le (by omega)
      rw [e]
      clear e hc hnk
      go_wp2
      go_ret
      exact ⟨rfl, rfl⟩

theorem tdiv_top (e : Int) : (9223372036854775807 : Int).tdiv e = 9223372036854775807 / e := Int.tdiv_eq_ediv_of_nonneg (by decide)

theorem capacity_any (h e : Int) (w : World) :
    Calls Tryd.prog 78 #[.int .i64 h, .int .i64 e] w fun r w' => r = .returned (.int .i64 (capI h e)) ∧ w' = w := by
  by_cases h0 : h ≤ 0
  · go_enter Tryd.func78, Tryd.ntmps78
    go_wp2
    go_ret
    exact ⟨ret_int (capI_none (.inl h0)).symm, rfl⟩
  · by_cases h1 : e ≤ 0
    · go_enter Tryd.func78, Tryd.ntmps78
      go_wp2
      go_ret
      exact ⟨ret_int (capI_none (.inr h1)).symm, rfl⟩
    · have hd := tdiv_top e
      have HC : Hid _ := @capI_top h e h0 h1
      have HM : Hid _ := @capI_mul h e h0 h1
      have hin := @mul_in h e h0 h1
      have q0 : 0 ≤ (9223372036854775807 : Int) / e := Int.ediv_nonneg (by decide) (by omega)
      have q1 : (9223372036854775807 : Int) / e ≤ 9223372036854775807 := Int.ediv_le_self _ (by decide)
      generalize (9223372036854775807 : Int) / e = D at *
      by_cases h2 : D < h
      · have HC2 : Hid _ := HC.out h2
        clear HC HM hin
        go_enter Tryd.func78, Tryd.ntmps78
        go_wp2
        go_ret
        exact ⟨ret_int HC2.out.symm, rfl⟩
      · have HM2 : Hid _ := HM.out h2
        obtain ⟨m0, m1⟩ := hin h2
        clear HC HM hin
        go_enter Tryd.func78, Tryd.ntmps78
        go_wp2
        go_ret
        exact ⟨ret_int HM2.out.symm, rfl⟩

theorem there_any (a : Option Addr) (len cap : Nat) (i : Int) (w : World) :
    Calls Tryd.prog 108 #[.slice a len cap, .int .i64 i] w fun r w' => r = .returned (.bool (has len i)) ∧ w' = w := by
  by_cases h0 : 0 ≤ i
  · go_enter Tryd.func108, Tryd.ntmps108
    go_wp2
    go_ret
    exact ⟨ret_bool (by simp [has, h0]), rfl⟩
  · go_enter Tryd.func108, Tryd.ntmps108
    go_wp2
    go_ret
    exact ⟨ret_bool (has_false (by omega)).symm, rfl⟩

theorem cap_any (a : Option Addr) (len cap : Nat) (zs : List Int) (e : Int) (w : World) (hr : IntsAt w a len cap zs) :
    Calls Tryd.prog 51 #[.slice a len cap, .int .i64 e] w fun r w' => r = .returned (.int .i64 (capI (act zs : Nat) e)) ∧ w' = w := by
  go_enter Tryd.func51, Tryd.ntmps51
  go_wp2_with (first
    | (go_at_call 79; refine (active_any _ _ _ _ _ hr).mono ?_; rintro e w' ⟨rfl, rfl⟩)
    | (go_at_call 78; refine (capacity_any _ _ _).mono ?_; rintro e w' ⟨rfl, rfl⟩))
  go_ret
  exact ⟨rfl, rfl⟩

end Go.Proofs.YtmlkpfkeeifgeaaDoor.Gd
namespace Go.Proofs.YtmlkpfkeeifgeaaDoor.Gd
open Go.ChangeShapes Go.WideShapes Go.ChangeAt Go.RowKit

/-- The closure whose three variables lie from p on. -/
def fn (p : Nat) : Value := .func (.func 107) #[] #[.pointer (some ⟨p, 0, none⟩), .pointer (some ⟨p + 2, 0, none⟩), .pointer (some ⟨p + 1, 0, none⟩)]
/-- What they hold: the states, how much is left without one, the guard. -/
structure CloAt (w : World) (p : Nat) (a : Option Addr) (len cap : Nat) (zs : List Int) (L g : Int) : Prop where
  lt : p + 2 < w.heap.size
  c0 : w.cell? ⟨p, 0, none⟩ = some (.slice a len cap)
  c1 : w.cell? ⟨p + 1, 0, none⟩ = some (.int .i64 g)
  c2 : w.cell? ⟨p + 2, 0, none⟩ = some (.int .i64 L)
  ints : IntsAt w a len cap zs
theorem CloAt.below {w w' : World} {p : Nat} {a : Option Addr} {len cap : Nat} {zs : List Int} {L g : Int} (h : CloAt w p a len cap zs L g) (hb : Below w.heap.size w w') : CloAt w' p a len cap zs L g := by
  have h1 := h.lt
  exact ⟨Nat.lt_of_lt_of_le h.lt hb.size, (hb.cell (p := ⟨p, 0, none⟩) (by show p < _; omega)).trans h.c0, (hb.cell (p := ⟨p + 1, 0, none⟩) (by show p + 1 < _; omega)).trans h.c1, (hb.cell (p := ⟨p + 2, 0, none⟩) h1).trans h.c2, h.ints.below hb⟩

/-- What the closure tells. -/
def mayL (zs : List Int) (i L g : Int) : Bool := has zs.length i && (!(zs.getD i.toNat 0 == 0) || decide (g ≤ L))
theorem mayL_may (zs : List Int) (i e g : Int) : mayL zs i (capI ((act zs : Int) - 1) e) g = mayB zs i e g := rfl

set_option maxRecDepth 100000 in
theorem told_any (p : Nat) (a : Option Addr) (len cap : Nat) (zs : List Int) (L g i : Int) (w : World) (h : CloAt w p a len cap zs L g) :
    Calls Tryd.prog 107 #[.int .i64 i, .pointer (some ⟨p, 0, none⟩), .pointer (some ⟨p + 2, 0, none⟩), .pointer (some ⟨p + 1, 0, none⟩)] w fun r w' => r = .returned (.bool (mayL zs i L g)) ∧ w' = w := by
  obtain ⟨_, c0, c1, c2, hz, hle, hcap, hc⟩ := h
  unfold maxLen at hcap
  by_cases hi : 0 ≤ i ∧ i < (len : Int)
  · obtain ⟨h0, h1⟩ := hi
    obtain ⟨k, rfl⟩ : ∃ k : Nat, i = k := ⟨i.toNat, by omega⟩
    obtain ⟨b, off, rfl, _, hcell⟩ := hc k (by omega)
    have hh : has len (k : Int) = true := has_iff.2 ⟨h0, h1⟩
    obtain ⟨x, hx⟩ : ∃ x, zs.getD k 0 = x := ⟨_, rfl⟩
    rw [hx] at hcell
    have HM : Hid (mayL zs (k : Int) L g = (!(x == 0) || decide (g ≤ L))) := by
      show mayL zs (k : Int) L g = _
      unfold mayL
      rw [hz, hh, Int.toNat_natCast, hx]
      rfl
    clear hc hx hz
    by_cases hx0 : x = 0
    · subst hx0
      go_enter Tryd.func107, Tryd.ntmps107
      go_wp2_with (go_at_call 108; refine (there_any _ _ _ _ _).mono ?_; rintro e w' ⟨rfl, rfl⟩)
      go_ret
      exact ⟨ret_bool (by rw [HM.out]; simp), rfl⟩
    · go_enter Tryd.func107, Tryd.ntmps107
      go_wp2_with (go_at_call 108; refine (there_any _ _ _ _ _).mono ?_; rintro e w' ⟨rfl, rfl⟩)
      go_ret
      exact ⟨ret_bool (by rw [HM.out]; simp [hx0]), rfl⟩
  · have hh : has len i = false := has_false hi
    have HM : Hid (mayL zs i L g = false) := by
      show mayL zs i L g = false
      unfold mayL
      rw [hz, hh]
      rfl
    clear hc hz hi
    go_enter Tryd.func107, Tryd.ntmps107
    go_wp2_with (go_at_call 108; refine (there_any _ _ _ _ _).mono ?_; rintro e w' ⟨rfl, rfl⟩)
    go_ret
    exact ⟨ret_bool HM.out.symm, rfl⟩

set_option maxRecDepth 100000 in
theorem leaver_any (a : Option Addr) (len cap : Nat) (zs : List Int) (e g : Int) (w : World) (hr : IntsAt w a len cap zs) :
    Calls Tryd.prog 101 #[.slice a len cap, .int .i64 e, .int .i64 g] w fun r w' => r = .returned (fn w.heap.size) ∧ CloAt w' w.heap.size a len cap zs (capI ((act zs : Int) - 1) e) g ∧ Below w.heap.size w w' := by
  have hmf : ∀ (fn : Fn) (first cap : Array Value) (w : World), (Instr.makeFunc fn first cap).run Tryd.prog w = .ok (.func fn first cap) w := fun _ _ _ _ => rfl
  obtain ⟨W, hW⟩ : ∃ W, W = (w.alloc (.cells #[.slice a len cap] 28)).alloc (.cells #[.int .i64 g] 3) := ⟨_, rfl⟩
  have hb : Below w.heap.size w W := by rw [hW]; exact ((Below.refl _ w).alloc (Nat.le_refl _) _).alloc (by simp) _
  have hs : W.heap.size = w.heap.size + 2 := by rw [hW]; simp
  have c0 : W.cell? ⟨w.heap.size, 0, none⟩ = some (.slice a len cap) := by rw [hW]; simp [go_sem]
  have c1 : W.cell? ⟨w.heap.size + 1, 0, none⟩ = some (.int .i64 g) := by rw [hW]; simp [go_sem]
  have hr2 := hr.below hb
  have hact : act zs ≤ zs.length := act_le zs
  have hl := hr.hlen
  have hle := hr.hle
  have hcap := hr.hcap
  unfold maxLen at hcap
  have HR : Hid _ := hr2
  clear hr2 hr
  go_enter Tryd.func101, Tryd.ntmps101
  go_wp2_with fail
  rw [← hW]
  clear hW
  have HB : Hid _ := hb
  clear hb
  refine (active_any _ _ _ _ _ HR.out).mono ?_
  rintro e1 w1 ⟨rfl, hw1⟩
  obtain rfl : W = w1 := hw1.symm
  clear hw1
  go_wp2_with fail
  refine (capacity_any _ _ _).mono ?_
  rintro e1 w1 ⟨rfl, hw1⟩
  obtain rfl : W = w1 := hw1.symm
  clear hw1
  go_wp2
  go_ret
  generalize capI ((act zs : Int) - 1) e = L
  have hb3 : Below W.heap.size W (W.alloc (.cells #[.int .i64 L] 3)) := (Below.refl _ W).alloc (Nat.le_refl _) _
  refine ⟨rfl, ⟨by simp [hs], ?_, ?_, ?_, HR.out.below hb3⟩, HB.out.trans (hb3.mono HB.out.size)⟩
  · exact (hb3.cell (p := ⟨w.heap.size, 0, none⟩) (by show w.heap.size < _; omega)).trans c0
  · exact (hb3.cell (p := ⟨w.heap.size + 1, 0, none⟩) (by show w.heap.size + 1 < _; omega)).trans c1
  · rw [← hs]
    simp [go_sem]

set_option maxRecDepth 100000 in
theorem may_any (a : Option Addr) (len cap : Nat) (zs : List Int) (i e g : Int) (w : World) (hr : IntsAt w a len cap zs) :
    Calls Tryd.prog 84 #[.slice a len cap, .int .i64 i, .int .i64 e, .int .i64 g] w fun r w' => r = .returned (.bool (mayB zs i e g)) ∧ Below w.heap.size w w' := by
  have HL : Hid _ := hr
  clear hr
  go_enter Tryd.func84, Tryd.ntmps84
  go_wp2_with fail
  refine (leaver_any a len cap zs e g w HL.out).mono ?_
  rintro e1 w1 ⟨rfl, hC, hb⟩
  have HC : Hid _ := hC
  have HB : Hid _ := hb
  clear hC hb HL
  unfold fn
  go_wp2_with fail
  refine (told_any _ _ _ _ _ _ _ _ _ HC.out).mono ?_
  rintro e1 w2 ⟨rfl, hw2⟩
  obtain rfl : w1 = w2 := hw2.symm
  go_wp2
  go_ret
  exact ⟨ret_bool (mayL_may zs i e g), HB.out⟩

/-- The capacity without the place i. -/
def withI (zs : List Int) (i e : Int) : Int := capI ((act zs : Int) - (one zs i : Nat)) e

theorem first_step (zs : List Int) (e g : Int) (l : List Int) (k : Nat) (hk : k < l.length) :
    firstI zs e g (l.drop k) = if mayB zs (l.getD k 0) e g = true then (l.getD k 0, true) else firstI zs e g (l.drop (k + 1)) := by
  rw [List.drop_eq_getElem_cons hk]
  simp [firstI, List.getD, hk]

end Go.Proofs.YtmlkpfkeeifgeaaDoor.Gd
namespace Go.Proofs.YtmlkpfkeeifgeaaDoor.Gd
open Go.ChangeShapes Go.WideShapes Go.ChangeAt Go.RowKit

def ic (zs : List Int) : List Value := zs.map (Value.int .i64)
theorem ic_length (zs : List Int) : (ic zs).length = zs.length := by simp [ic]
theorem ic_append (l r : List Int) : ic (l ++ r) = ic l ++ ic r := by simp [ic]
theorem ic_one (l : List Int) : ∀ u ∈ ic l, u.oneCell' = true := by
  intro u hu
  obtain ⟨x, _, rfl⟩ := List.mem_map.1 hu
  rfl
theorem info3 : (Tryd.prog.info? 3).map (fun i => (i.zero, i.size, i.bytes)) = some (some (.int .i64 0), 1, 8) := by kernel_rfl

theorem IntsAt.news {w : World} {x : Addr} {len cap : Nat} {zs : List Int} (h : IntsAt w (some x) len cap zs) : ∀ j u, (ic zs)[j]? = some u → w.cell? (x.add j) = some u := by
  intro j u hu
  have hj : j < zs.length := by
    have := (List.getElem?_eq_some_iff.1 hu).1
    simpa [ic_length] using this
  obtain ⟨b, off, e, _, hc⟩ := h.at_ j (by have := h.hlen; omega)
  cases e
  have e0 : ((⟨b, off, none⟩ : Addr).add j) = ⟨b, off + j, none⟩ := by unfold Addr.add; split <;> simp_all
  rw [e0, hc]
  simp [ic, List.getD, hj] at hu ⊢
  exact hu

theorem owns_ints {w : World} {base n : Nat} {v : Value} {zs : List Int} (h : w.ownsRow base 3 1 v n (ic zs)) : ∃ a cap, v = .slice a n cap ∧ IntsAt w a n cap zs ∧ (a = none → n = 0 ∧ cap = 0) := by
  have h0 := h
  obtain ⟨hl, hcase⟩ := h
  rw [ic_length, Nat.mul_one] at hl
  rcases hcase with ⟨rfl, rfl⟩ | ⟨g, cap, cur, rfl, hb, hg, hn, hcap, _, _⟩
  · exact ⟨_, _, rfl, ⟨hl, Nat.le_refl _, Nat.zero_le _, fun j hj => absurd hj (Nat.not_lt_zero _)⟩, fun _ => ⟨rfl, rfl⟩⟩
  · refine ⟨_, _, rfl, ⟨hl, hn, hcap, fun j hj => ⟨g, 0, rfl, (Array.getElem?_eq_some_iff.1 hg).1, ?_⟩⟩, fun h => by cases h⟩
    have := h0.cells (g := g) rfl j (.int .i64 (zs.getD j 0)) (by
      have : j < zs.length := by omega
      simp [ic, List.getD, this])
    have e0 : ((⟨g, 0, none⟩ : Addr).add j) = ⟨g, 0 + j, none⟩ := by unfold Addr.add; split <;> simp_all
    rw [e0] at this
    exact this

/-- Ints are appended. -/
theorem wpList_ints (w : World) {ops : Array Oper} {rest : List Oper} {o : Oper} {a : Act} {Q : Exit → Act → World → Prop} (hgd : o.guard = none) (s x : Operand)
    (ho : o.op = .call { callee := .builtin .append, args := #[s, x], argTypes := #[28, 28] }) (base : Nat) (v : Value) (n : Nat) (xs ys zs : List Int) (hs : a.eval s = v) (hown : w.ownsRow base 3 1 v n (ic xs)) (ao : Option Addr) (m c : Nat)
    (hx : a.eval x = .slice ao m c) (hB : IntsAt w ao m c ys) (hnone : ao = none → m = 0 ∧ c = 0) (hnm : n + m ≤ 5000) (hbase : base ≤ w.heap.size) (hz : xs ++ ys = zs) (N : Nat) (hN : N = n + m)
    (h : ∀ v' w', w'.ownsRow base 3 1 v' N (ic zs) → w.grownBy w' v.ownBlock → wpList Tryd.prog ops Q rest (a.put o.dst v') w') : wpList Tryd.prog ops Q (o :: rest) a w := by
  obtain ⟨i, hi, hz0, hz1, hz2⟩ := info_parts info3
  subst hz hN
  cases ao with
  | none =>
    obtain ⟨rfl, rfl⟩ := hnone rfl
    obtain rfl : ys = [] := List.eq_nil_of_length_eq_zero hB.hlen
    exact wpList_append_own_none hgd s x 28 ho base 3 i 1 Tryd.underlying28 hi v n _ hs hown hx (h v w (by simpa using hown) (World.grownBy.refl _ _))
  | some ad =>
    refine wpList_append_own w hgd s x 28 ho base 3 i (.int .i64 0) 1 8 Tryd.underlying28 hi hz0 hz1 hz2 rfl (by decide) v n _ hs hown ad m c (ic ys) hx (by rw [ic_length, hB.hlen, Nat.mul_one]) hB.news (ic_one _) (by unfold maxLen; omega) (by omega) hbase ?_
    intro v' w' h1 h2 _
    exact h v' w' (by rw [ic_append]; exact h1) h2

/-- One int, laid by the call. -/
theorem one_at (w : World) (x : Int) : IntsAt (w.alloc (.cells #[.int .i64 x] 3)) (some ⟨w.heap.size, 0, none⟩) 1 1 [x] := by
  refine ⟨rfl, Nat.le_refl _, by unfold maxLen; omega, fun j hj => ⟨_, _, rfl, by simp, ?_⟩⟩
  match j, hj with
  | 0, _ => simp [go_sem]

/-- One of its ints is written. -/
theorem ic_set (l : List Int) (k : Nat) (x : Int) : (ic l).set k (.int .i64 x) = ic (l.set k x) := by simp [ic, List.map_set]

end Go.Proofs.YtmlkpfkeeifgeaaDoor.Gd
namespace Go.Proofs.YtmlkpfkeeifgeaaDoor.Gd
open Go.ChangeShapes Go.WideShapes Go.ChangeAt Go.RowKit

theorem pos_lo (e : Int) : 0 ≤ pos e := by unfold pos; split <;> omega
theorem pos_hi {e : Int} (h : e ≤ 1000) : pos e ≤ 1000 := by unfold pos; split <;> omega
theorem pos_pos {e : Int} (h : 0 < e) : pos e = e := by unfold pos; rw [if_pos h]
theorem pos_not {e : Int} (h : ¬ 0 < e) : pos e = 0 := by unfold pos; rw [if_neg h]
theorem mul_bd {n : Nat} {p : Int} (hn : n ≤ 4000) (h0 : 0 ≤ p) (h1 : p ≤ 1000) : 0 ≤ (n : Int) * p ∧ (n : Int) * p ≤ 4000000 := by
  refine ⟨Int.mul_nonneg (by omega) h0, ?_⟩
  have h2 := mul_le (h := (n : Int)) (k := 4000) (e := p) (by omega) h0
  omega

set_option maxHeartbeats 1000000 in
theorem rcap_any (a : Option Addr) (len cap : Nat) (zs : List Int) (e : Int) (he : e ≤ 1000) (h20 : len ≤ 4000) (w : World) (hr : IntsAt w a len cap zs) :
    Calls Tryd.prog 76 #[.slice a len cap, .int .i64 e] w fun r w' => r = .returned (.int .i64 ((act zs : Nat) * pos e)) ∧ w' = w := by
  obtain ⟨hz, hle, hcap, hc⟩ := hr
  unfold maxLen at hcap
  go_enter Tryd.func76, Tryd.ntmps76
  go_wp2
  go_loop [5, 6] (fun c i => ∃ k : Nat, k ≤ len ∧ i = .int .i64 k ∧ c = .int .i64 ((act (zs.take k) : Nat) * pos e)) (fun _ i => len - (intOf i).toNat)
  case atStart => exact ⟨0, Nat.zero_le _, rfl, by simp [act]⟩
  case round =>
    obtain ⟨k, hk, rfl, rfl⟩ := hrel
    have hnk : act (zs.take k) ≤ 4000 := by have := act_le (zs.take k); rw [List.length_take] at this; omega
    by_cases hlt : k < len
    · obtain ⟨b, off, rfl, _, hcell⟩ := hc k hlt
      have hs := take_snoc zs k (by omega)
      obtain ⟨x, hx⟩ : ∃ x, zs.getD k 0 = x := ⟨_, rfl⟩
      rw [hx] at hcell hs
      obtain ⟨q0, q1⟩ := mul_bd hnk (pos_lo e) (pos_hi he)
      obtain ⟨M, hM⟩ : ∃ M, (act (zs.take k) : Int) * pos e = M := ⟨_, rfl⟩
      rw [hM] at q0 q1
      by_cases h0 : x = 0
      · by_cases h1 : 0 < e
        · have HS : Hid ((act (zs.take (k + 1)) : Int) * pos e = M + e) := by
            show (act (zs.take (k + 1)) : Int) * pos e = M + e
            rw [hs, act_yes _ h0, ← hM, pos_pos h1, Int.natCast_add, Int.add_mul]
            simp
          subst h0
          rw [hM]
          clear hc hx hs hM
          go_wp2
          go_round
          case rel => exact ⟨k + 1, by omega, by go_num, by rw [HS.out]⟩
          case measure => simp [intOf]; omega
        · have HS : Hid ((act (zs.take (k + 1)) : Int) * pos e = M) := by
            show (act (zs.take (k + 1)) : Int) * pos e = M
            rw [← hM, pos_not h1]
            simp
          subst h0
          rw [hM]
          clear hc hx hs hM
          go_wp2
          go_round
          case rel => exact ⟨k + 1, by omega, by go_num, by rw [HS.out]⟩
          case measure => simp [intOf]; omega
      · have HS : Hid ((act (zs.take (k + 1)) : Int) * pos e = M) := by
          show (act (zs.take (k + 1)) : Int) * pos e = M
          rw [hs, act_no _ h0, hM]
        rw [hM]
        clear hc hx hs hM
        go_wp2
        go_round
        case rel => exact ⟨k + 1, by omega, by go_num, by rw [HS.out]⟩
        case measure => simp [intOf]; omega
    · have e : zs.take k = zs := List.take_of_length_le (by omega)
      rw [e]
      clear e hc hnk
      go_wp2
      go_ret
      exact ⟨rfl, rfl⟩

set_option maxHeartbeats 1000000 in
set_option maxRecDepth 100000 in
theorem rwithout_any (a : Option Addr) (len cap : Nat) (zs : List Int) (i e : Int) (he : e ≤ 1000) (h20 : len ≤ 4000) (w : World) (hr : IntsAt w a len cap zs) :
    Calls Tryd.prog 106 #[.slice a len cap, .int .i64 i, .int .i64 e] w fun r w' => r = .returned (.int .i64 ((act (rm zs i) : Nat) * pos e)) ∧ Below w.heap.size w w' := by
  have hz := hr.hlen
  have hle := hr.hle
  have hcap := hr.hcap
  unfold maxLen at hcap
  have HR : Hid _ := hr
  have HE : Hid _ := he
  clear hr he
  go_enter Tryd.func106, Tryd.ntmps106
  go_wp2
  go_loopw [7, 8] (fun v c wr => ∃ (k : Nat) (l : List Int) (n : Nat), k ≤ len ∧ c = .int .i64 k ∧ n ≤ k ∧ Hid (rm (zs.take k) i = l ∧ l.length = n) ∧ wr.ownsRow w.heap.size 3 1 v n (ic l) ∧ Below w.heap.size w wr) (fun _ i _ => len - (intOf i).toNat)
  case atStart => exact ⟨0, [], 0, Nat.zero_le _, rfl, Nat.le_refl _, ⟨rfl, rfl⟩, World.ownsRow_nil _ _ _ _, Below.refl _ _⟩
  case round =>
    obtain ⟨k, l, n, hk, rfl, hlk, hcut, hown, hbel⟩ := hrel
    by_cases hlt : k < len
    · obtain ⟨b, off, rfl, _, hcell⟩ := (HR.out.below hbel).at_ k hlt
      have hs := take_snoc zs k (by omega)
      obtain ⟨x, hx⟩ : ∃ x, zs.getD k 0 = x := ⟨_, rfl⟩
      rw [hx] at hcell hs
      have hr1 := rm_snoc (zs.take k) x i
      rw [← hs, hcut.out.1, List.length_take, Nat.min_eq_left (by omega)] at hr1
      by_cases hi : (k : Int) = i
      · rw [if_pos hi] at hr1
        have HS : Hid (rm (zs.take (k + 1)) i = l ∧ l.length = n) := ⟨hr1, hcut.out.2⟩
        clear hs hx hr1 hcut
        go_wp2
        go_roundw
        case rel => exact ⟨k + 1, l, n, by omega, by go_num, by omega, HS, hown, hbel⟩
        case measure => simp [intOf]; omega
      · rw [if_neg hi] at hr1
        have HS : Hid (rm (zs.take (k + 1)) i = l ++ [x] ∧ (l ++ [x]).length = n + 1) := ⟨hr1, by simp [hcut.out.2]⟩
        clear hs hx hr1 hcut
        have HB : Hid _ := hbel
        go_wp2_with (at_builtin; refine wpList_ints _ rfl _ _ rfl w.heap.size _ n l [x] (l ++ [x]) rfl (hown.alloc _) _ 1 1 rfl (one_at wr x) (fun h => by cases h) (by omega) (by have := HB.out.size; simp; omega) rfl (n + 1) rfl ?_)
        intro v5 w5 hown5 hgr5
        have hb5 : Below w.heap.size w w5 := (HB.out.alloc HB.out.size _).grown hgr5 (by have := HB.out.size; simp; omega) (fun j hj => (hown.lt j hj).1)
        clear hgr5 hown hbel HB
        go_wp2
        go_roundw
        case rel => exact ⟨k + 1, l ++ [x], n + 1, by omega, by go_num, by omega, HS, hown5, hb5⟩
        case measure => simp [intOf]; omega
    · have e2 : zs.take k = zs := List.take_of_length_le (by omega)
      have h2 := hcut.out
      rw [e2] at h2
      obtain ⟨rfl, h3⟩ := h2
      obtain ⟨a5, cap5, rfl, hD5, -⟩ := owns_ints hown
      clear hcut hown e2 h3
      go_wp2_with fail
      refine (rcap_any _ _ _ _ _ HE.out (by omega) _ hD5).mono ?_
      rintro e1 w1 ⟨rfl, hw⟩
      obtain rfl : wr = w1 := hw.symm
      go_wp2
      go_ret
      exact ⟨rfl, hbel⟩

end Go.Proofs.YtmlkpfkeeifgeaaDoor.Gd
namespace Go.Proofs.YtmlkpfkeeifgeaaDoor.Gd

/-- Of zs, n have left, and L is what there is now. -/
structure Kp (zs L : List Int) (n : Nat) (e g : Int) : Prop where
  len : L.length = zs.length
  cnt : act L + n = act zs
  dn : down (act L) e g = down (act zs) e g
/-- All of the places below i have been asked. -/
structure Sp (zs L : List Int) (i n : Nat) (e g : Int) : Prop where
  kp : Kp zs L n e g
  done : act (L.take i) = 0 ∨ down (act L) e g = act L

theorem Kp.start (zs : List Int) (e g : Int) : Kp zs zs 0 e g := ⟨rfl, rfl, rfl⟩
theorem Kp.le {zs L : List Int} {n : Nat} {e g : Int} (h : Kp zs L n e g) : (n : Int) ≤ (act zs : Int) - (down (act zs) e g : Nat) := by
  have h1 := down_le (act L) e g
  have h2 := h.cnt
  have h3 := h.dn
  omega
theorem may_le {L : List Int} {k : Nat} {e g : Int} (hk : k < L.length) (h0 : L.getD k 0 = 0) (hm : mayB L (k : Int) e g = true) : g ≤ capI ((act L : Int) - 1) e := by
  rw [mayB_act ⟨by omega, by omega⟩ (by simpa using h0)] at hm
  simpa using hm
theorem not_may {L : List Int} {k : Nat} {e g : Int} (hk : k < L.length) (hm : mayB L (k : Int) e g = false) : L.getD k 0 = 0 ∧ ¬ g ≤ capI ((act L : Int) - 1) e := by
  by_cases h0 : L.getD k 0 = 0
  · rw [mayB_act ⟨by omega, by omega⟩ (by simpa using h0)] at hm
    exact ⟨h0, by simpa using hm⟩
  · rw [mayB_other ⟨by omega, by omega⟩ (by simpa using h0)] at hm
    cases hm
theorem act_left {L : List Int} {k : Nat} (hk : k < L.length) (h0 : L.getD k 0 = 0) : act L = act (L.set k 1) + 1 := by
  have := act_set L k hk
  rw [if_pos h0] at this
  omega
theorem act_same {L : List Int} {k : Nat} (hk : k < L.length) (h0 : ¬ L.getD k 0 = 0) : act (L.set k 1) = act L := by
  have := act_set L k hk
  rw [if_neg h0] at this
  omega
theorem Kp.leave {zs L : List Int} {n k : Nat} {e g : Int} (h : Kp zs L n e g) (hk : k < L.length) (h0 : L.getD k 0 = 0) (hm : mayB L (k : Int) e g = true) : Kp zs (L.set k 1) (n + 1) e g := by
  have hg := may_le hk h0 hm
  have ha := act_left hk h0
  have h1 := h.cnt
  have h2 := h.dn
  refine ⟨by rw [List.length_set]; exact h.len, by omega, ?_⟩
  rw [← h2, ha]
  rw [ha] at hg
  exact (down_step (by simpa using hg)).symm
theorem Kp.other {zs L : List Int} {n k : Nat} {e g : Int} (h : Kp zs L n e g) (hk : k < L.length) (h0 : ¬ L.getD k 0 = 0) : Kp zs (L.set k 1) n e g := by
  have ha := act_same hk h0
  exact ⟨by rw [List.length_set]; exact h.len, by rw [ha]; exact h.cnt, by rw [ha]; exact h.dn⟩

theorem take_set (L : List Int) (k : Nat) (hk : k < L.length) : (L.set k 1).take (k + 1) = L.take k ++ [1] := by
  rw [take_snoc _ k (by simpa using hk), List.take_set_of_le (Nat.le_refl _)]
  simp [List.getD, hk]

theorem Sp.start (zs : List Int) (e g : Int) : Sp zs zs 0 0 e g := ⟨Kp.start zs e g, .inl rfl⟩
theorem Sp.leave {zs L : List Int} {n k : Nat} {e g : Int} (h : Sp zs L k n e g) (hk : k < L.length) (h0 : L.getD k 0 = 0) (hm : mayB L (k : Int) e g = true) : Sp zs (L.set k 1) (k + 1) (n + 1) e g := by
  refine ⟨h.kp.leave hk h0 hm, ?_⟩
  rcases h.done with hd | hd
  · left
    rw [take_set L k hk, act_no _ (by decide)]
    exact hd
  · exfalso
    have hg := may_le hk h0 hm
    have ha := act_left hk h0
    rw [ha] at hg hd
    rw [down_step (by simpa using hg)] at hd
    have := down_le (act (L.set k 1)) e g
    omega
theorem Sp.stay {zs L : List Int} {n k : Nat} {e g : Int} (h : Sp zs L k n e g) (hk : k < L.length) (hn : ¬ L.getD k 0 = 0 ∨ mayB L (k : Int) e g = false) : Sp zs L (k + 1) n e g := by
  refine ⟨h.kp, ?_⟩
  rcases h.done with hd | hd
  · rcases hn with h0 | hm
    · left
      rw [take_snoc L k hk, act_no _ h0]
      exact hd
    · right
      obtain ⟨h0, hg⟩ := not_may hk hm
      have ha := act_left hk h0
      rw [ha] at hg ⊢
      exact down_stay (by simpa using hg)
  · exact .inr hd
theorem Sp.end_ {zs L : List Int} {n len : Nat} {e g : Int} (h : Sp zs L len n e g) (hl : zs.length = len) : (n : Int) = (act zs : Int) - (down (act zs) e g : Nat) := by
  have h1 := h.kp.cnt
  have h2 := h.kp.dn
  have h3 : down (act L) e g = act L := by
    rcases h.done with hd | hd
    · rw [List.take_of_length_le (by rw [h.kp.len, hl]; exact Nat.le_refl _)] at hd
      rw [hd]
      rfl
    · exact hd
  omega

end Go.Proofs.YtmlkpfkeeifgeaaDoor.Gd
namespace Go.Proofs.YtmlkpfkeeifgeaaDoor.Gd
open Go.ChangeShapes Go.WideShapes Go.ChangeAt Go.RowKit Go.Joins

theorem grown_of {w w' : World} (h : Below w.heap.size w w') : w.grownBy w' none := ⟨h.os, h.tape, h.output, h.size, fun k hk _ => h.block k hk⟩
theorem owns_below {w w' : World} {base n : Nat} {v : Value} {xs : List Value} (h : w.ownsRow base 3 1 v n xs) (hb : Below w.heap.size w w') : w'.ownsRow base 3 1 v n xs := by
  refine h.kept (grown_of hb) ?_
  cases hv : v.ownBlock with
  | none => exact .inl rfl
  | some x => exact .inr (by simp)

theorem without_rm {zs : List Int} {i e : Int} (h20 : zs.length ≤ 4000) (he : e ≤ 1000) : withI zs i e = (act (rm zs i) : Nat) * pos e := by
  have h1 := rm_act zs i
  have h2 := act_le zs
  have h3 : (act zs : Int) - (one zs i : Nat) = (act (rm zs i) : Nat) := by omega
  unfold withI
  rw [h3, capI_small (by omega) (by omega) he]
theorem cap_pos {zs : List Int} {e : Int} (h20 : zs.length ≤ 4000) (he : e ≤ 1000) : capI (act zs : Nat) e = (act zs : Nat) * pos e := by
  have h2 := act_le zs
  rw [capI_small (by omega) (by omega) he]

set_option maxRecDepth 100000 in
theorem rmay_any (a : Option Addr) (len cap : Nat) (zs : List Int) (i e g : Int) (he : e ≤ 1000) (h20 : len ≤ 4000) (w : World) (hr : IntsAt w a len cap zs) :
    Calls Tryd.prog 96 #[.slice a len cap, .int .i64 i, .int .i64 e, .int .i64 g] w fun r w' => r = .returned (.bool (mayB zs i e g)) ∧ Below w.heap.size w w' := by
  have HR : Hid _ := hr
  have HE : Hid _ := he
  obtain ⟨hz, hle, hcap, hc⟩ := hr
  unfold maxLen at hcap
  by_cases hi : 0 ≤ i ∧ i < (len : Int)
  · obtain ⟨h0, h1⟩ := hi
    obtain ⟨k, rfl⟩ : ∃ k : Nat, i = k := ⟨i.toNat, by omega⟩
    obtain ⟨b, off, rfl, _, hcell⟩ := hc k (by omega)
    obtain ⟨x, hx⟩ : ∃ x, zs.getD k 0 = x := ⟨_, rfl⟩
    rw [hx] at hcell
    by_cases hx0 : x = 0
    · subst hx0
      have HM : Hid (mayB zs (k : Int) e g = decide (g ≤ (act (rm zs (k : Int)) : Nat) * pos e)) := by
        show mayB zs (k : Int) e g = _
        rw [mayB_act ⟨h0, by omega⟩ (by simpa using hx), ← without_rm (by omega) he]
        unfold withI one
        rw [has_iff.2 ⟨h0, by omega⟩]
        have hx' : zs.getD (k : Int).toNat 0 = 0 := by simpa using hx
        rw [hx']
        rfl
      have hw := rwithout_any _ len cap zs (k : Int) e HE.out h20 w HR.out
      clear hc hx hz he
      generalize ((act (rm zs (k : Int)) : Nat) : Int) * pos e = M at *
      go_enter Tryd.func96, Tryd.ntmps96
      go_wp2_with (go_at_call 106; refine hw.mono ?_; rintro e1 w1 ⟨rfl, hb⟩)
      go_ret
      exact ⟨ret_bool HM.out.symm, hb⟩
    · have HM : Hid (mayB zs (k : Int) e g = true) := mayB_other ⟨h0, by omega⟩ (by simpa using (by rw [hx]; exact hx0 : ¬ zs.getD k 0 = 0))
      clear hc hx hz he
      go_enter Tryd.func96, Tryd.ntmps96
      go_wp2
      go_ret
      exact ⟨ret_bool HM.out.symm, Below.refl _ _⟩
  · have HM : Hid (mayB zs i e g = false) := mayB_out (by omega)
    clear hc hz he
    by_cases h0 : i < 0
    · go_enter Tryd.func96, Tryd.ntmps96
      go_wp2
      go_ret
      exact ⟨ret_bool HM.out.symm, Below.refl _ _⟩
    · have h1 : (len : Int) ≤ i := by omega
      clear hi
      go_enter Tryd.func96, Tryd.ntmps96
      go_wp2
      go_ret
      exact ⟨ret_bool HM.out.symm, Below.refl _ _⟩

end Go.Proofs.YtmlkpfkeeifgeaaDoor.Gd
