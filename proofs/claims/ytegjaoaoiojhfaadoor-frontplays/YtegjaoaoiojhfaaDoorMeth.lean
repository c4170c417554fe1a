/-
  What New and the calls of a front that hand it nothing do, of nil too: State, Held, enter, moved, Bound, Done, Abort, Quit. Conditions: the front lies where it is said to lie.
-/
import Derived.Test.YtegjaoaoiojhfaaDoorTab
import Derived.Deep.RegionHeld3
namespace Go.Proofs.YtegjaoaoiojhfaaDoor
open Go.ChangeShapes Go.WideShapes Go.ChangeAt Go.RowKit

/-- The slice (a, len, cap) reads as the ints zs. -/
structure IntsAt (w : World) (a : Option Addr) (len cap : Nat) (zs : List Int) : Prop where
  hlen : zs.length = len
  hle : len ≤ cap
  hcap : cap ≤ maxLen
  at_ : ∀ j, j < len → ∃ b off, a = some ⟨b, off, none⟩ ∧ b < w.heap.size ∧ w.cell? ⟨b, off + j, none⟩ = some (.int .i64 (zs.getD j 0))
theorem IntsAt.below {w w' : World} {a : Option Addr} {len cap : Nat} {zs : List Int} (h : IntsAt w a len cap zs) (hb : Below w.heap.size w w') : IntsAt w' a len cap zs := by
  refine ⟨h.hlen, h.hle, h.hcap, fun j hj => ?_⟩
  obtain ⟨b, off, e, hlt, hc⟩ := h.at_ j hj
  exact ⟨b, off, e, Nat.lt_of_lt_of_le hlt hb.size, (hb.cell (p := ⟨b, off + j, none⟩) hlt).trans hc⟩

/-- The first place of v in zs; its length, if it isn't there. -/
def fidx (v : Int) : List Int → Nat
  | [] => 0
  | y :: l => if v = y then 0 else fidx v l + 1
theorem fidx_le (v : Int) : ∀ l, fidx v l ≤ l.length
  | [] => Nat.le_refl _
  | y :: l => by
    unfold fidx
    split
    · omega
    · have := fidx_le v l
      simp
      omega
theorem fidx_lt (v : Int) : ∀ l j, j < fidx v l → v ≠ l.getD j 0
  | [], j, h => by simp [fidx] at h
  | y :: l, j, h => by
    unfold fidx at h
    split at h
    · omega
    · rename_i hy
      cases j with
      | zero => simpa using hy
      | succ j => simpa using fidx_lt v l j (by omega)
theorem fidx_at (v : Int) : ∀ l, fidx v l < l.length → v = l.getD (fidx v l) 0
  | [], h => by simp at h
  | y :: l, h => by
    unfold fidx at h ⊢
    split
    · rename_i hy; simpa using hy
    · rename_i hy
      rw [if_neg hy] at h
      simpa using fidx_at v l (by simpa using h)
def plc (v : Int) (l : List Int) : Int := if fidx v l < l.length then fidx v l else -1
def hasI (v : Int) (l : List Int) : Bool := decide (fidx v l < l.length)

set_option maxHeartbeats 1000000 in
theorem index_any (w : World) (a : Option Addr) (len cap : Nat) (zs : List Int) (v : Int) (h : IntsAt w a len cap zs) :
    Calls Tryd.prog 36 #[.slice a len cap, .int .i64 v] w fun e w' => e = .returned (.int .i64 (plc v zs)) ∧ w' = w := by
  have hl := h.hlen
  have hle := h.hle
  have hc := h.hcap
  have hat := h.at_
  unfold maxLen at hc
  have hf := fidx_le v zs
  have hlt := fidx_lt v zs
  have heq := fidx_at v zs
  unfold plc
  rw [hl] at *
  generalize fidx v zs = F at *
  have HLT := Hid.mk' hlt
  have HEQ := Hid.mk' heq
  have HAT := Hid.mk' hat
  have HP : Hid ((F < len → (if F < len then (F : Int) else -1) = F) ∧ (¬ F < len → (if F < len then (F : Int) else -1) = -1)) := ⟨fun h => if_pos h, fun h => if_neg h⟩
  generalize (if F < len then (F : Int) else -1) = P at *
  clear hlt heq hat h
  go_enter Tryd.func36, Tryd.ntmps36
  go_wp2
  go_loopw [8] (fun v8 wr => ∃ i : Nat, v8 = .int .i64 i ∧ i ≤ F ∧ wr = w) (fun v8 _ => len + 1 - (intOf v8).toNat)
  case atStart => exact ⟨0, rfl, Nat.zero_le _, rfl⟩
  case round =>
    obtain ⟨i, rfl, hi, rfl⟩ := hrel
    by_cases h1 : i < len
    · obtain ⟨b, off, rfl, hb, hx⟩ := HAT.out i h1
      by_cases h2 : i < F
      · have hne := HLT.out i h2
        generalize zs.getD i 0 = z at *
        have hb2 : (v == z) = false := by simpa using hne
        clear hne
        go_wp2
        exact ⟨⟨i + 1, by simp, by omega, by trivial⟩, by simp [intOf]; omega⟩
      · obtain rfl : F = i := by omega
        have he := HEQ.out h1
        rw [← he] at hx
        clear he
        go_wp2
        go_ret
        exact ⟨ret_int (HP.out.1 h1).symm, rfl⟩
    · go_wp2
      go_ret
      exact ⟨ret_int (HP.out.2 (by omega)).symm, rfl⟩

theorem contains_any (w : World) (a : Option Addr) (len cap : Nat) (zs : List Int) (v : Int) (h : IntsAt w a len cap zs) (b : Bool) (hb : hasI v zs = b) :
    Calls Tryd.prog 35 #[.slice a len cap, .int .i64 v] w fun e w' => e = .returned (.bool b) ∧ w' = w := by
  have hi := index_any w a len cap zs v h
  subst hb
  unfold hasI
  unfold plc at hi
  clear h
  by_cases hF : fidx v zs < zs.length
  · rw [if_pos hF] at hi
    have e : decide (fidx v zs < zs.length) = true := by simpa using hF
    rw [e]
    have h0 : (0 : Int) ≤ (fidx v zs : Nat) := by omega
    generalize fidx v zs = F at *
    clear e hF
    go_enter Tryd.func35, Tryd.ntmps35
    go_wp2_with (go_at_call 36; refine hi.mono ?_; rintro e w' ⟨rfl, hw'⟩; subst w')
    go_ret
    exact ⟨rfl, rfl⟩
  · rw [if_neg hF] at hi
    have e : decide (fidx v zs < zs.length) = false := by simpa using hF
    rw [e]
    clear e hF
    go_enter Tryd.func35, Tryd.ntmps35
    go_wp2_with (go_at_call 36; refine hi.mono ?_; rintro e w' ⟨rfl, hw'⟩; subst w')
    go_ret
    exact ⟨rfl, rfl⟩

theorem state_nil (w : World) : Calls Tryd.prog 19 #[.pointer none] w fun e w' => e = .returned (.int .i64 6) ∧ w' = w := by
  go_enter Tryd.func19, Tryd.ntmps19
  go_wp2
  go_ret
  exact ⟨rfl, rfl⟩
theorem held_nil (w : World) : Calls Tryd.prog 20 #[.pointer none] w fun e w' => e = .returned (.int .i64 0) ∧ w' = w := by
  go_enter Tryd.func20, Tryd.ntmps20
  go_wp2
  go_ret
  exact ⟨rfl, rfl⟩
theorem enter_nil (t : Int) (w : World) : Calls Tryd.prog 28 #[.pointer none, .int .i64 t] w fun e w' => e = .returned (.tuple #[]) ∧ w' = w := by
  go_enter Tryd.func28, Tryd.ntmps28
  go_wp2
  refine bodyPost_ret (results_none rfl _ _ _) rfl ?_
  exact ⟨rfl, rfl⟩
theorem moved_nil (t : Int) (w : World) (a : Option Addr) (len cap : Nat) (zs : List Int) (h : IntsAt w a len cap zs) (hn : hasI 6 zs = false) :
    Calls Tryd.prog 34 #[.pointer none, .int .i64 t, .slice a len cap] w fun e w' => e = .returned (.bool false) ∧ w' = w := by
  have hc := contains_any w a len cap zs 6 h false hn
  have hs := state_nil w
  clear h hn
  go_enter Tryd.func34, Tryd.ntmps34
  go_wp2_with (first
    | (go_at_call 19; refine hs.mono ?_; rintro e w' ⟨rfl, hw'⟩; subst w')
    | (go_at_call 35; refine hc.mono ?_; rintro e w' ⟨rfl, hw'⟩; subst w'))
  go_ret
  exact ⟨rfl, rfl⟩

section
variable {w : World} {A : Nat → Prop} {g : Nat} {s : Ft}
theorem state_w (h : FIn w A g s) : Calls Tryd.prog 19 #[.pointer (some ⟨g, 0, none⟩)] w fun e w' => e = .returned (.int .i64 s.st) ∧ w' = w := by
  obtain ⟨a, c, c0, c1, f, hle, hcap, hl, _⟩ := h.cells
  clear h
  go_enter Tryd.func19, Tryd.ntmps19
  go_wp2
  go_ret
  exact ⟨rfl, rfl⟩
theorem held_w (h : FIn w A g s) (n : Nat) (hn : s.hl.length = n) : Calls Tryd.prog 20 #[.pointer (some ⟨g, 0, none⟩)] w fun e w' => e = .returned (.int .i64 n) ∧ w' = w := by
  obtain ⟨a, c, c0, c1, f, hle, hcap, hl, _⟩ := h.cells
  rw [hn] at *
  clear h hn
  go_enter Tryd.func20, Tryd.ntmps20
  go_wp2
  go_ret
  exact ⟨rfl, rfl⟩
/-- Another state; a closed one holds nothing. -/
def enT (t : Int) (s : Ft) : Ft := ⟨t, if t = 6 then [] else s.hl⟩
theorem enter_w (h : FIn w A g s) (t : Int) :
    Calls Tryd.prog 28 #[.pointer (some ⟨g, 0, none⟩), .int .i64 t] w fun e w' => e = .returned (.tuple #[]) ∧ FIn w' A g (enT t s) ∧ Keep A w w' := by
  have hs := h.setSt t
  obtain ⟨a, c, c0, c1, f, hle, hcap, hl, _⟩ := h.cells
  have f0 := f 0
  by_cases ht : t = 6
  · subst ht
    have hc := hs.1.clr
    obtain ⟨a2, c2, d0, d1, f2, _⟩ := hs.1.cells
    have f1 := f2 1
    have HR : Hid (FIn _ A g ⟨6, []⟩ ∧ Keep A w _) := ⟨hc.1, hs.2.trans hc.2⟩
    rw [show enT 6 s = ⟨6, []⟩ from rfl]
    clear h hs hc f f2
    go_enter Tryd.func28, Tryd.ntmps28
    go_wp2
    go_end0
    exact ⟨rfl, HR.out⟩
  · have HR := Hid.mk' hs
    rw [show enT t s = ⟨t, s.hl⟩ by unfold enT; rw [if_neg ht]]
    have hb : (t == 6) = false := by simpa using ht
    clear h hs f ht
    go_enter Tryd.func28, Tryd.ntmps28
    go_wp2
    go_end0
    exact ⟨rfl, HR.out⟩

/-- What moved does: it is brought to t, if its state is one of those. -/
def mvT (t : Int) (b : Bool) (s : Ft) : Ft := if b = true then enT t s else s
theorem moved_w (h : FIn w A g s) (t : Int) (a : Option Addr) (len cap : Nat) (zs : List Int) (hz : IntsAt w a len cap zs) (b : Bool) (hb : hasI s.st zs = b) :
    Calls Tryd.prog 34 #[.pointer (some ⟨g, 0, none⟩), .int .i64 t, .slice a len cap] w fun e w' => e = .returned (.bool b) ∧ FIn w' A g (mvT t b s) ∧ Keep A w w' := by
  have hc := contains_any w a len cap zs s.st hz b hb
  have hs := state_w h
  have he := enter_w h t
  have H0 := Hid.mk' h
  unfold mvT
  clear h hb hz
  cases b with
  | true =>
    rw [if_pos rfl]
    generalize s.st = S at *
    go_enter Tryd.func34, Tryd.ntmps34
    go_wp2_with (first
      | (go_at_call 19; refine hs.mono ?_; rintro e w' ⟨rfl, hw'⟩; subst w')
      | (go_at_call 35; refine hc.mono ?_; rintro e w' ⟨rfl, hw'⟩; subst w')
      | (go_at_call 28; refine he.mono ?_; rintro e w2 ⟨rfl, hf, hk⟩))
    go_ret
    exact ⟨rfl, hf, hk⟩
  | false =>
    rw [if_neg (by decide)]
    generalize s.st = S at *
    go_enter Tryd.func34, Tryd.ntmps34
    go_wp2_with (first
      | (go_at_call 19; refine hs.mono ?_; rintro e w' ⟨rfl, hw'⟩; subst w')
      | (go_at_call 35; refine hc.mono ?_; rintro e w' ⟨rfl, hw'⟩; subst w'))
    go_ret
    exact ⟨rfl, H0.out, Keep.refl _ _⟩
end

end Go.Proofs.YtegjaoaoiojhfaaDoor
