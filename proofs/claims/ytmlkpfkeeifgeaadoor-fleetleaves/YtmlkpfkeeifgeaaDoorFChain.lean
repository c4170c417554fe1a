/-
  The fleet's calls in one form: from a state to a state, the answers by their names. Conditions: a fleet lies where it is said to lie; the state is one that may be.
-/
import Derived.Test.YtmlkpfkeeifgeaaDoorFGood
namespace Go.Proofs.YtmlkpfkeeifgeaaDoor
open Go.ChangeShapes Go.WideShapes Go.ChangeAt Go.RowKit

/-- A fleet of a state. -/
abbrev FA (w : World) (A : Nat → Prop) (f : Nat) (e gd : Int) (s : Fl) : Prop := FIn w A f e gd s.H s.L s.M
section
variable {e gd : Int} {s s' : Fl} {x : ByteArray}
theorem q_drain {w : World} {A : Nat → Prop} {f : Nat} (h : FA w A f e gd s) (hs : x.size ≤ maxLen) (E : Int) (hE : drE x s = E) (hS : drS x s = s') : Calls Tryd.prog 23 #[.pointer (some ⟨f, 0, none⟩), .string x] w fun r w' => r = .returned (.int .i64 E) ∧ FA w' A f e gd s' ∧ Keep A w w' := by
  have := fdrain_w h x hs
  rw [hE, hS] at this
  exact this
theorem q_undrain {w : World} {A : Nat → Prop} {f : Nat} (h : FA w A f e gd s) (hv : Inv s.L s.M) (hs : x.size ≤ maxLen) (E : Int) (hE : unE x s = E) (hS : unS x s = s') : Calls Tryd.prog 32 #[.pointer (some ⟨f, 0, none⟩), .string x] w fun r w' => r = .returned (.int .i64 E) ∧ FA w' A f e gd s' ∧ Keep A w w' := by
  have := fundrain_w h hv x hs
  rw [hE, hS] at this
  exact this
theorem q_force {w : World} {A : Nat → Prop} {f : Nat} (h : FA w A f e gd s) (hv : Inv s.L s.M) (hs : x.size ≤ maxLen) (d : Int) (hm : s.M.length ≤ 4000) (E : Int) (hE : foE x s = E) (hS : foS x d s = s') : Calls Tryd.prog 31 #[.pointer (some ⟨f, 0, none⟩), .string x, .int .i64 d] w fun r w' => r = .returned (.int .i64 E) ∧ FA w' A f e gd s' ∧ Keep A w w' := by
  have := fforce_w h hv x d hs hm
  rw [hE, hS] at this
  exact this
theorem q_eject {w : World} {A : Nat → Prop} {f : Nat} (h : FA w A f e gd s) (hs : x.size ≤ maxLen) (hl : s.H.length ≤ 4000) (E : Int) (hE : ejE x e gd s = E) (hS : ejS x e gd s = s') : Calls Tryd.prog 33 #[.pointer (some ⟨f, 0, none⟩), .string x] w fun r w' => r = .returned (.int .i64 E) ∧ FA w' A f e gd s' ∧ Keep A w w' := by
  have := feject_w h x hs hl
  rw [hE, hS] at this
  exact this
theorem q_probe {w : World} {A : Nat → Prop} {f : Nat} (h : FA w A f e gd s) (b : Bool) (hE : prB x s = b) (hS : prS x s = s') : Calls Tryd.prog 38 #[.pointer (some ⟨f, 0, none⟩), .string x] w fun r w' => r = .returned (.bool b) ∧ FA w' A f e gd s' ∧ Keep A w w' := by
  have := fprobe_w h x
  rw [hE, hS] at this
  exact this
theorem q_empty {w : World} {A : Nat → Prop} {f : Nat} (h : FA w A f e gd s) (hv : Inv s.L s.M) (b : Bool) (hE : emB x s = b) (hS : emS x s = s') : Calls Tryd.prog 30 #[.pointer (some ⟨f, 0, none⟩), .string x] w fun r w' => r = .returned (.bool b) ∧ FA w' A f e gd s' ∧ Keep A w w' := by
  have := fempty_w h hv x
  rw [hE, hS] at this
  exact this
theorem q_admit {w : World} {A : Nat → Prop} {f : Nat} (h : FA w A f e gd s) (hv : Inv s.L s.M) (d : Int) (hl : s.H.length ≤ 4000) (hm : s.M.length + s.L.length ≤ 4000) (hg : ∀ x ∈ nms s.L, nameB x = true) (N : List ByteArray) (n : Nat) (hn : N.length = n) (hF : adm e gd d s.H s.L s.M = (s', N)) : Calls Tryd.prog 22 #[.pointer (some ⟨f, 0, none⟩), .int .i64 d] w fun r w' => ∃ a c, r = .returned (.slice a n c) ∧ w'.ownsRow w.heap.size 9 1 (.slice a n c) n (sc N) ∧ FA w' A f e gd s' ∧ Keep A w w' := by
  subst hn
  refine (fadmit_w h hv d hl hm hg s' N hF).mono ?_
  rintro r w' ⟨v, rfl, o1, hf, hk⟩
  obtain ⟨a, c, rfl, -, -⟩ := owns_strs o1
  exact ⟨a, c, rfl, o1, hf.fewer (fun k hk => .inl hk) h.a0, hk⟩
theorem q_resolve {w : World} {A : Nat → Prop} {f : Nat} {l : List ByteArray} (h : FA w A f e gd s) (hv : Inv s.L s.M) (al : Option Addr) (nl cl : Nat) (hl : StrsAt w al nl cl l) (hA : ∀ x, al = some x → A x.block) (hls : ∀ x ∈ l, x.size ≤ maxLen) (d : Int) (hn : s.H.length ≤ 3900) (hm : s.M.length + s.H.length ≤ 4000) (hsz : ∀ i, i < s.H.length → (atH s.H i).nm.size ≤ maxLen)
    (E : Int) (C N : List ByteArray) (nc nn : Nat) (hE : reE l = E) (hS : reS l d s = s') (hC : reC l d s = C) (hN : reN l s = N) (hnc : C.length = nc) (hnn : N.length = nn) :
    Calls Tryd.prog 21 #[.pointer (some ⟨f, 0, none⟩), .slice al nl cl, .int .i64 d] w fun r w' => ∃ a c a' c', r = .returned (.tuple #[.slice a nc c, .slice a' nn c', .int .i64 E]) ∧ w'.ownsRow w.heap.size 9 1 (.slice a nc c) nc (sc C) ∧ w'.ownsRow w.heap.size 9 1 (.slice a' nn c') nn (sc N) ∧
      FIn w' (fun k => (A k ∨ bk a' k) ∨ bk a k) f e gd s'.H s'.L s'.M ∧ Keep A w w' := by
  subst hnc hnn hE hS hC hN
  refine (fresolve_w h hv al nl cl hl hA hls d hn hm hsz).mono ?_
  rintro r w' ⟨va, vb, rfl, o1, o2, hf, hk⟩
  obtain ⟨a, c, rfl, -, -⟩ := owns_strs o1
  obtain ⟨a', c', rfl, -, -⟩ := owns_strs o2
  refine ⟨a, c, a', c', rfl, o1, o2, hf.fewer ?_ (.inl (.inl h.a0)), hk⟩
  rintro k ((hk | hk) | hk)
  · exact .inl (.inl hk)
  · exact .inl (.inr (own_bk.2 hk))
  · exact .inr (own_bk.2 hk)
theorem q_ahead {w : World} {A : Nat → Prop} {f : Nat} (h : FA w A f e gd s) (P : Int) (hP : plc x (nms s.L) = P) : Calls Tryd.prog 24 #[.pointer (some ⟨f, 0, none⟩), .string x] w fun r w' => r = .returned (.int .i64 P) ∧ FA w' A f e gd s ∧ Keep A w w' := by
  subst hP
  exact (fahead_w h x).mono fun _ _ ⟨q1, q2⟩ => ⟨q1, h.below q2, keep_below q2⟩
theorem q_cap {w : World} {A : Nat → Prop} {f : Nat} (h : FA w A f e gd s) (hl : s.H.length ≤ 4000) (C : Int) (hC : capF s.H e = C) : Calls Tryd.prog 18 #[.pointer (some ⟨f, 0, none⟩)] w fun r w' => r = .returned (.int .i64 C) ∧ FA w' A f e gd s ∧ Keep A w w' := by
  subst hC
  exact (fcap_w h hl).mono fun _ _ ⟨q1, q2⟩ => ⟨q1, h.below q2, keep_below q2⟩
theorem q_state {w : World} {A : Nat → Prop} {f : Nat} (h : FA w A f e gd s) (t : Int) (b : Bool) (ht : stF x s.H = t) (hb : isH x s.H = b) : Calls Tryd.prog 27 #[.pointer (some ⟨f, 0, none⟩), .string x] w fun r w' => r = .returned (.tuple #[.int .i64 t, .bool b]) ∧ FA w' A f e gd s ∧ Keep A w w' := by
  subst ht hb
  exact (fstate_w h x).mono fun _ _ ⟨q1, q2⟩ => ⟨q1, h.below q2, keep_below q2⟩
theorem q_leaves {w : World} {A : Nat → Prop} {f : Nat} (h : FA w A f e gd s) (b : Bool) (hb : lvF x s.H = b) : Calls Tryd.prog 28 #[.pointer (some ⟨f, 0, none⟩), .string x] w fun r w' => r = .returned (.bool b) ∧ FA w' A f e gd s ∧ Keep A w w' := by
  subst hb
  exact (fleaves_w h x).mono fun _ _ ⟨q1, q2⟩ => ⟨q1, h.below q2, keep_below q2⟩
theorem q_due {w : World} {A : Nat → Prop} {f : Nat} (h : FA w A f e gd s) (d : Int) (hl : s.M.length ≤ 4000) (N : List ByteArray) (n : Nat) (hN : dueL d s.M = N) (hn : N.length = n) : Calls Tryd.prog 29 #[.pointer (some ⟨f, 0, none⟩), .int .i64 d] w fun r w' => ∃ a c, r = .returned (.slice a n c) ∧ StrsAt w' a n c N ∧ (∀ x, a = some x → w.heap.size ≤ x.block) ∧ FA w' A f e gd s ∧ Keep A w w' := by
  subst hN hn
  refine (fdue_w h d hl).mono ?_
  rintro r w' ⟨v, rfl, o1, hb⟩
  obtain ⟨a, c, rfl, hs, hbl⟩ := owns_strs o1
  exact ⟨a, c, rfl, hs, fun x hx => (hbl x hx).1, h.below hb, keep_below hb⟩
theorem q_new (e gd : Int) (w : World) (ht : St.Tabs w) : Calls Tryd.prog 12 #[.int .i64 e, .int .i64 gd] w fun r w' => ∃ f, r = .returned (.pointer (some ⟨f, 0, none⟩)) ∧ FA w' (fun k => k < w.heap.size) f e gd ⟨[], [], []⟩ ∧ Below w.heap.size w w' :=
  (fnew_w e gd w ht).mono fun _ _ ⟨f, q1, _, q3, q4⟩ => ⟨f, q1, q3, q4⟩
end

theorem stF_sta {x : ByteArray} {g : ByteArray → Int × Bool} {l : List ByteArray} (h : x ∈ l) : stF x (sta g l) = (g x).1 := by
  unfold stF
  rw [if_pos (isH_sta.2 h), ofN_sta h]
theorem act_all (l : List Int) (h : ∀ x ∈ l, x = 0) : Gd.act l = l.length := by
  induction l with
  | nil => rfl
  | cons a l ih =>
    have := h a (by simp)
    have h2 := ih (fun x hx => h x (by simp [hx]))
    subst this
    simp [Gd.act, h2]
    omega
theorem capF_one {H : List Hs} {e : Int} (hl : H.length ≤ 4000) (h0 : 0 < e) (he : e ≤ 1000) : capF H e = (Gd.act (hz H) : Int) * e := by
  have h1 := Gd.act_le (hz H)
  rw [hz_length] at h1
  unfold capF
  rw [Gd.capI_small (by omega) (by omega) he]
  unfold Gd.pos
  rw [if_pos h0]
end Go.Proofs.YtmlkpfkeeifgeaaDoor
