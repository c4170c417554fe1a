/-
  Ticks that are cut, spans, and windows as lists of ticks, in plain mathematics: which ticks are of late, what Count and Add leave, and that it is the ticks that are of late at the greatest tick told. Conditions: where it is said, the ticks are cut and do not fall.
-/
import Derived.KernelRfl
namespace Go.Proofs.Ytjnacpcdkkfdgaa

def cut (n : Int) : Int := if n < 0 then 0 else if 1099511627776 < n then 1099511627776 else n
def spanI (n : Int) : Int := if n < 1 then 1 else if 1048576 < n then 1048576 else n
def addI (a b : Int) : Int := cut (cut a + cut b)
def subI (a b : Int) : Int := cut (cut a - cut b)
/-- The program's: is a tick of late? -/
def lateB (x now s : Int) : Bool := decide (subI now x < s)
/-- The document's. -/
def lateR (x s now : Int) : Bool := decide (now < x + s)

theorem cut_lo (n : Int) : 0 ≤ cut n := by unfold cut; split <;> (try split) <;> omega
theorem cut_hi (n : Int) : cut n ≤ 1099511627776 := by unfold cut; split <;> (try split) <;> omega
theorem cut_neg {n : Int} (h : n < 0) : cut n = 0 := by unfold cut; rw [if_pos h]
theorem cut_big {n : Int} (h : 1099511627776 < n) : cut n = 1099511627776 := by unfold cut; rw [if_neg (by omega), if_pos h]
theorem cut_mid {n : Int} (h0 : 0 ≤ n) (h1 : n ≤ 1099511627776) : cut n = n := by unfold cut; rw [if_neg (by omega), if_neg (by omega)]
theorem cut_cases (n : Int) : (n < 0 ∧ cut n = 0) ∨ (1099511627776 < n ∧ cut n = 1099511627776) ∨ (0 ≤ n ∧ n ≤ 1099511627776 ∧ cut n = n) := by
  by_cases h0 : n < 0
  · exact Or.inl ⟨h0, cut_neg h0⟩
  · by_cases h1 : 1099511627776 < n
    · exact Or.inr (Or.inl ⟨h1, cut_big h1⟩)
    · exact Or.inr (Or.inr ⟨by omega, by omega, cut_mid (by omega) (by omega)⟩)
theorem span_lo (n : Int) : 1 ≤ spanI n := by unfold spanI; split <;> (try split) <;> omega
theorem span_hi (n : Int) : spanI n ≤ 1048576 := by unfold spanI; split <;> (try split) <;> omega
theorem span_mono {a b : Int} (h : a ≤ b) : spanI a ≤ spanI b := by unfold spanI; repeat' split <;> omega
theorem span_neg {n : Int} (h : n < 1) : spanI n = 1 := by unfold spanI; rw [if_pos h]
theorem span_big {n : Int} (h : 1048576 < n) : spanI n = 1048576 := by unfold spanI; rw [if_neg (by omega), if_pos h]
theorem span_mid {n : Int} (h0 : 1 ≤ n) (h1 : n ≤ 1048576) : spanI n = n := by unfold spanI; rw [if_neg (by omega), if_neg (by omega)]

/-- A tick. -/
def Tk (x : Int) : Prop := 0 ≤ x ∧ x ≤ 1099511627776
theorem tk_cut (n : Int) : Tk (cut n) := ⟨cut_lo n, cut_hi n⟩
theorem Tk.cut {x : Int} (h : Tk x) : cut x = x := cut_mid h.1 h.2

theorem late_same (x now s : Int) (hs : 1 ≤ s) : lateB x now s = lateR (cut x) s (cut now) := by
  unfold lateB lateR subI
  have k := cut_cases (cut now - cut x)
  have a1 := cut_hi now
  have a2 := cut_lo x
  apply decide_eq_decide.2
  omega
theorem late_tk {x now s : Int} (hs : 1 ≤ s) (hx : Tk x) (hn : Tk now) : lateB x now s = lateR x s now := by
  rw [late_same x now s hs, hx.cut, hn.cut]

/-- What a window has at a greatest tick: the first ones that are not of late are struck. -/
def cntL (s t : Int) (L : List Int) : List Int := L.dropWhile (fun x => !lateB x t s)
def behN (s t : Int) (L : List Int) : Nat := (L.takeWhile (fun x => !lateB x t s)).length
/-- The document's: those that are of late. -/
def allR (s t : Int) (L : List Int) : List Int := L.filter (fun x => lateR x s t)
def lastI (L : List Int) : Int := L.getLastD 0

theorem behN_le (s t : Int) (L : List Int) : behN s t L ≤ L.length := (List.takeWhile_sublist _).length_le
theorem cntL_drop (s t : Int) : ∀ L : List Int, cntL s t L = L.drop (behN s t L)
  | [] => rfl
  | x :: r => by
    unfold cntL behN
    cases h : lateB x t s with
    | true => simp [List.dropWhile, List.takeWhile, h]
    | false =>
      have := cntL_drop s t r
      unfold cntL behN at this
      simp [List.dropWhile, List.takeWhile, h, this]
theorem behN_lt (s t : Int) : ∀ (L : List Int) (j : Nat), j < behN s t L → lateB (L.getD j 0) t s = false
  | [], j, h => by simp [behN] at h
  | x :: r, j, h => by
    unfold behN at h
    cases hx : lateB x t s with
    | true => simp [List.takeWhile, hx] at h
    | false =>
      simp [List.takeWhile, hx] at h
      cases j with
      | zero => simpa using hx
      | succ j =>
        have := behN_lt s t r j (by unfold behN; omega)
        simpa using this
theorem behN_at (s t : Int) : ∀ (L : List Int), behN s t L < L.length → lateB (L.getD (behN s t L) 0) t s = true
  | [], h => by simp at h
  | x :: r, h => by
    unfold behN at h ⊢
    cases hx : lateB x t s with
    | true => simp [List.takeWhile, hx]
    | false =>
      simp [List.takeWhile, hx] at h ⊢
      have := behN_at s t r (by unfold behN; omega)
      unfold behN at this
      simpa using this
theorem cntL_length (s t : Int) (L : List Int) : (cntL s t L).length ≤ L.length := (List.dropWhile_sublist _).length_le

/-- Cut ticks that do not fall. -/
structure Row (L : List Int) : Prop where
  tk : ∀ x ∈ L, Tk x
  up : L.Pairwise (fun x y => x ≤ y)

theorem Row.nil : Row [] := ⟨fun _ h => by simp at h, List.Pairwise.nil⟩
theorem Row.all {L : List Int} (h : Row L) (s t : Int) : Row (allR s t L) := ⟨fun x hx => h.tk x (List.mem_filter.1 hx).1, List.Pairwise.filter _ h.up⟩
theorem Row.snoc {L : List Int} {x : Int} (h : Row L) (hx : Tk x) (hl : ∀ y ∈ L, y ≤ x) : Row (L ++ [x]) := by
  refine ⟨fun y hy => ?_, List.pairwise_append.2 ⟨h.up, List.pairwise_singleton _ _, fun y hy z hz => ?_⟩⟩
  · rcases List.mem_append.1 hy with h1 | h1
    · exact h.tk y h1
    · rw [List.mem_singleton.1 h1]; exact hx
  · rw [List.mem_singleton.1 hz]; exact hl y hy

theorem cnt_all {s t : Int} (hs : 1 ≤ s) (ht : Tk t) : ∀ {L : List Int}, Row L → cntL s t L = allR s t L
  | [], _ => rfl
  | x :: r, h => by
    have hx := late_tk hs (h.tk x (by simp)) ht
    obtain ⟨h1, h2⟩ := List.pairwise_cons.1 h.up
    unfold cntL allR
    cases hb : lateB x t s with
    | true =>
      rw [List.filter_eq_self.2]
      · simp [List.dropWhile, hb]
      · intro y hy
        rcases List.mem_cons.1 hy with rfl | hy
        · rw [← hx]; exact hb
        · have := h1 y hy
          rw [hx] at hb
          unfold lateR at hb ⊢
          rw [decide_eq_true_eq] at hb ⊢
          omega
    | false =>
      have ih := cnt_all (s := s) (t := t) hs ht (L := r) ⟨fun y hy => h.tk y (by simp [hy]), h2⟩
      unfold cntL allR at ih
      rw [hb] at hx
      simp [List.dropWhile, hb, List.filter, ← hx, ih]

theorem all_all (s : Int) {t t' : Int} (h : t ≤ t') (L : List Int) : allR s t' (allR s t L) = allR s t' L := by
  unfold allR
  rw [List.filter_filter]
  congr 1
  funext x
  unfold lateR
  by_cases h1 : t' < x + s
  · simp [h1]; omega
  · simp [h1]
theorem all_self (s : Int) {t t' : Int} (h : t' ≤ t) (L : List Int) : allR s t' (allR s t L) = allR s t L := by
  unfold allR
  rw [List.filter_eq_self]
  intro x hx
  have := (List.mem_filter.1 hx).2
  unfold lateR at this ⊢
  rw [decide_eq_true_eq] at this ⊢
  omega
theorem all_app (s t : Int) (L M : List Int) : allR s t (L ++ M) = allR s t L ++ allR s t M := List.filter_append ..
theorem all_length (s t : Int) (L : List Int) : (allR s t L).length ≤ L.length := List.length_filter_le _ _
theorem all_own (s x : Int) (hs : 1 ≤ s) : allR s x [x] = [x] := by
  unfold allR lateR
  simp
  omega
theorem all_span {s s' : Int} (h : s ≤ s') (t : Int) : ∀ L : List Int, (allR s t L).length ≤ (allR s' t L).length
  | [] => Nat.le_refl _
  | x :: r => by
    have ih := all_span h t r
    unfold allR lateR at ih ⊢
    by_cases h1 : t < x + s
    · have h2 : t < x + s' := by omega
      simp [List.filter, h1, h2]
      exact ih
    · by_cases h2 : t < x + s'
      · simp [List.filter, h1, h2]
        omega
      · simp [List.filter, h1, h2]
        exact ih
theorem all_none {s t : Int} {L : List Int} (h : ∀ x ∈ L, x + s ≤ t) : allR s t L = [] := by
  unfold allR
  rw [List.filter_eq_nil_iff]
  intro x hx
  have := h x hx
  unfold lateR
  simp
  omega

theorem last_snoc (L : List Int) (x : Int) : lastI (L ++ [x]) = x := by simp [lastI]
theorem last_mem {L : List Int} (h : 0 < L.length) : lastI L ∈ L := by
  unfold lastI
  cases L with
  | nil => simp at h
  | cons x r => rw [List.getLastD_cons]; exact List.getLastD_mem_cons
theorem last_le {L : List Int} (h : L.Pairwise (fun x y => x ≤ y)) : ∀ x ∈ L, x ≤ lastI L := by
  intro x hx
  rcases List.eq_nil_or_concat L with rfl | ⟨r, y, rfl⟩
  · simp at hx
  · rw [List.concat_eq_append] at h hx ⊢
    rw [last_snoc]
    rcases List.mem_append.1 hx with h1 | h1
    · exact (List.pairwise_append.1 h).2.2 x h1 y (by simp)
    · rw [List.mem_singleton.1 h1]; exact Int.le_refl _
theorem last_nth (L : List Int) : L.getD (L.length - 1) 0 = lastI L := by
  unfold lastI
  rw [List.getLastD_eq_getLast?, List.getLast?_eq_getElem?]
  simp [List.getD]
theorem last_tk {L : List Int} (h : Row L) : Tk (lastI L) := by
  by_cases h0 : 0 < L.length
  · exact h.tk _ (last_mem h0)
  · obtain rfl : L = [] := List.length_eq_zero_iff.1 (by omega)
    unfold lastI Tk; simp

end Go.Proofs.Ytjnacpcdkkfdgaa
