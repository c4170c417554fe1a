/-
  Several texts in one: FGood, FChain, UndP, ForP, RowP.
-/
import Derived.Test.YtmlkpfkeeifgeaaDoorFLives
import Derived.Test.YtmlkpfkeeifgeaaDoorGood
import Derived.Maps.AppendAt
namespace Go.Proofs.YtmlkpfkeeifgeaaDoor

/-- Hosts of the names l, their states and marks told by g. -/
def sta (g : ByteArray → Int × Bool) (l : List ByteArray) : List Hs := l.map (fun x => ⟨x, (g x).1, (g x).2⟩)
def g0 : ByteArray → Int × Bool := fun _ => (0, false)
def up (g : ByteArray → Int × Bool) (x : ByteArray) (p : Int × Bool) : ByteArray → Int × Bool := fun y => if y = x then p else g y
theorem up_same (g : ByteArray → Int × Bool) (x : ByteArray) (p : Int × Bool) : up g x p x = p := if_pos rfl
theorem up_ne {g : ByteArray → Int × Bool} {x y : ByteArray} {p : Int × Bool} (h : y ≠ x) : up g x p y = g y := if_neg h
theorem up_up (g : ByteArray → Int × Bool) (x : ByteArray) (p q : Int × Bool) : up (up g x p) x q = up g x q := by
  funext y
  unfold up
  split <;> rfl
theorem up_self (g : ByteArray → Int × Bool) (x : ByteArray) : up g x (g x) = g := by
  funext y
  unfold up
  split
  · rename_i h; rw [h]
  · rfl
theorem hn_sta (g : ByteArray → Int × Bool) (l : List ByteArray) : hn (sta g l) = l := by
  unfold hn sta
  rw [List.map_map]
  exact List.map_id' l
theorem sta_length (g : ByteArray → Int × Bool) (l : List ByteArray) : (sta g l).length = l.length := by simp [sta]
theorem sta_nil (g : ByteArray → Int × Bool) : sta g [] = [] := rfl
theorem sta_append (g : ByteArray → Int × Bool) (l m : List ByteArray) : sta g (l ++ m) = sta g l ++ sta g m := by simp [sta]
theorem plN_sta (x : ByteArray) (g : ByteArray → Int × Bool) (l : List ByteArray) : plN x (sta g l) = fidx x l := by unfold plN; rw [hn_sta]
theorem isH_sta {x : ByteArray} {g : ByteArray → Int × Bool} {l : List ByteArray} : isH x (sta g l) = true ↔ x ∈ l := by rw [isH_iff, hn_sta]
theorem isH_sta' {x : ByteArray} {g : ByteArray → Int × Bool} {l : List ByteArray} : isH x (sta g l) = false ↔ x ∉ l := by rw [isH_not, hn_sta]
theorem sta_get {g : ByteArray → Int × Bool} {l : List ByteArray} {i : Nat} (h : i < l.length) : atH (sta g l) i = ⟨l.getD i ⟨#[]⟩, (g (l.getD i ⟨#[]⟩)).1, (g (l.getD i ⟨#[]⟩)).2⟩ := by
  simp [atH, sta, List.getD, h]
theorem ofN_sta {x : ByteArray} {g : ByteArray → Int × Bool} {l : List ByteArray} (h : x ∈ l) : ofN x (sta g l) = ⟨x, (g x).1, (g x).2⟩ := by
  unfold ofN
  have h1 := (fidx_mem x l).2 h
  rw [plN_sta, sta_get h1, fidx_at x l h1]
theorem sta_set {x : ByteArray} {g : ByteArray → Int × Bool} : ∀ {l : List ByteArray}, l.Nodup → x ∈ l → ∀ p : Int × Bool, (sta g l).set (fidx x l) ⟨x, p.1, p.2⟩ = sta (up g x p) l
  | [], _, h, _ => by cases h
  | y :: l, hn, h, p => by
    have hy : y ∉ l ∧ l.Nodup := by simpa using hn
    unfold fidx
    by_cases hx : y = x
    · rw [if_pos hx]
      subst hx
      have : sta (up g y p) l = sta g l := by
        unfold sta
        apply List.map_congr_left
        intro z hz
        have : z ≠ y := fun e => hy.1 (e ▸ hz)
        rw [up_ne this]
      show ⟨y, p.1, p.2⟩ :: sta g l = ⟨y, (up g y p y).1, (up g y p y).2⟩ :: sta (up g y p) l
      rw [this, up_same]
    · rw [if_neg hx]
      have hm : x ∈ l := by
        rcases List.mem_cons.1 h with h | h
        · exact absurd h.symm hx
        · exact h
      show ⟨y, (g y).1, (g y).2⟩ :: (sta g l).set (fidx x l) ⟨x, p.1, p.2⟩ = ⟨y, (up g x p y).1, (up g x p y).2⟩ :: sta (up g x p) l
      rw [sta_set hy.2 hm p, up_ne hx]
theorem setS_sta {x : ByteArray} {g : ByteArray → Int × Bool} {l : List ByteArray} (hn : l.Nodup) (h : x ∈ l) (s : Int) : setS (sta g l) (plN x (sta g l)) s = sta (up g x (s, (g x).2)) l := by
  have := ofN_sta (g := g) h
  unfold ofN at this
  unfold setS
  rw [this, plN_sta]
  exact sta_set hn h (s, (g x).2)
theorem setV_sta {x : ByteArray} {g : ByteArray → Int × Bool} {l : List ByteArray} (hn : l.Nodup) (h : x ∈ l) (b : Bool) : setV (sta g l) (plN x (sta g l)) b = sta (up g x ((g x).1, b)) l := by
  have := ofN_sta (g := g) h
  unfold ofN at this
  unfold setV
  rw [this, plN_sta]
  exact sta_set hn h ((g x).1, b)
theorem tnH_sta {x : ByteArray} {g : ByteArray → Int × Bool} {l : List ByteArray} (hn : l.Nodup) (h : x ∈ l) (ev : Int) : tnH (plN x (sta g l)) ev (sta g l) = sta (up g x (St.nx (g x).1 ev, (g x).2)) l := by
  unfold tnH
  have := ofN_sta (g := g) h
  unfold ofN at this
  rw [setS_sta hn h, this]
theorem errF_sta {x : ByteArray} {g : ByteArray → Int × Bool} {l : List ByteArray} (h0 : nameB x = true) (h : x ∈ l) : errF x (sta g l) = 0 := by
  unfold errF
  rw [h0, isH_sta.2 h]
  rfl
theorem hz_sta (g : ByteArray → Int × Bool) (l : List ByteArray) : hz (sta g l) = l.map (fun x => (g x).1) := by simp [hz, sta]
theorem sta_congr {g g' : ByteArray → Int × Bool} {l : List ByteArray} (h : ∀ x ∈ l, g x = g' x) : sta g l = sta g' l := by
  unfold sta
  apply List.map_congr_left
  intro x hx
  rw [h x hx]

theorem good_all {l : List ByteArray} (hs : ∀ s ∈ l, s ∈ names6) : ∀ x ∈ l, nameB x = true := fun x hx => names6_ok x (hs x hx)
theorem good_size {l : List ByteArray} (hs : ∀ s ∈ l, s ∈ names6) : ∀ x ∈ l, x.size ≤ maxLen := fun x hx => by
  have := nameB_size (good_all hs x hx)
  unfold maxLen
  omega
theorem good_chk {l : List ByteArray} (h : l.Nodup) (hs : ∀ s ∈ l, s ∈ names6) : Df.chk l = 0 := by
  have h1 := good_len h hs
  have h2 : l.all Df.nameB = true := List.all_eq_true.2 (fun x hx => good_all hs x hx)
  exact Df.chk_good (by omega) h2 h

theorem enS_new : ∀ (l k : List ByteArray), (k ++ l).Nodup → enS l ⟨sta g0 k, [], []⟩ = ⟨sta g0 (k ++ l), [], []⟩ ∧ enN l ⟨sta g0 k, [], []⟩ = l
  | [], k, _ => by simp [enS, enN]
  | x :: l, k, h => by
    have hx : x ∉ k := by
      intro hx
      have := List.nodup_append.1 h
      exact this.2.2 x hx x (by simp) rfl
    have h1 : en1 x ⟨sta g0 k, [], []⟩ = ⟨sta g0 (k ++ [x]), [], []⟩ := by
      unfold en1
      rw [if_pos (isH_sta'.2 hx), sta_append]
      rfl
    have h2 : enN1 x ⟨sta g0 k, [], []⟩ = [x] := by
      unfold enN1
      rw [if_pos (isH_sta'.2 hx)]
    have h3 := enS_new l (k ++ [x]) (by simpa using h)
    constructor
    · show enS l (en1 x _) = _
      rw [h1, h3.1]
      simp
    · show enN1 x _ ++ enN l (en1 x _) = _
      rw [h1, h2, h3.2]
      rfl
theorem res_new {l : List ByteArray} (h : l.Nodup) (hc : Df.chk l = 0) (d : Int) : reE l = 0 ∧ reS l d ⟨[], [], []⟩ = ⟨sta g0 l, [], []⟩ ∧ reC l d ⟨[], [], []⟩ = l ∧ reN l ⟨[], [], []⟩ = [] := by
  have := enS_new l [] (by simpa using h)
  unfold reE reS reC reN
  rw [hc, if_pos rfl, if_pos rfl, if_pos rfl]
  exact ⟨rfl, this.1, this.2, rfl⟩
end Go.Proofs.YtmlkpfkeeifgeaaDoor
namespace Go.Proofs.YtmlkpfkeeifgeaaDoor
open Go.ChangeShapes Go.WideShapes Go.ChangeAt Go.RowKit

/-- A fleet of a state. -/
abbrev FA (w : World) (A : Nat → Prop) (f : Nat) (e gd : Int) (s : Fl) : Prop := FIn w A f e gd s.H s.L s.M
section
variable {e gd : Int} {s s' : Fl} {x : ByteArray}
theorem q_drain {w : World} {A : Nat → Prop} {f : Nat} (h : FA w A f e gd s) (hs : x.size ≤ maxLen) (E : Int) (hE : drE x s = E) (hS : drS x s = s') : Calls Tryd.prog 23 #[.pointer (some ⟨f, 0, none⟩), .string x] w fun r w' => r = .returned (.int .i64 E) ∧ FA w' A f e gd s' ∧ Keep A w w' := by
  have := fdrain_w h x hs
  rw [hE, hS] at this
  exact this
theorem q_undrain {w : World} {A : Nat → Prop} {f : Nat} (h : FA w A f e gd s) (hv : Inv s.L s.M) (hs : x.size ≤ maxLen) (E : Int) (hE : unE x s = E) (hS : unS x s = s') : Calls Tryd.prog 32 #[.pointer (some ⟨f, 0, none⟩), .string x] w fun r w' => r = .returned (.int .i64 E) ∧ FA w' A f e gd s' ∧ Keep A w w' := by
  have := fundrain_w h hv x hs
  rw [hE, hS] at this
  exact this
theorem q_force {w : World} {A : Nat → Prop} {f : Nat} (h : FA w A f e gd s) (hv : Inv s.L s.M) (hs : x.size ≤ maxLen) (d : Int) (hm : s.M.length ≤ 4000) (E : Int) (hE : foE x s = E) (hS : foS x d s = s') : Calls Tryd.prog 31 #[.pointer (some ⟨f, 0, none⟩), .string x, .int .i64 d] w fun r w' => r = .returned (.int .i64 E) ∧ FA w' A f e gd s' ∧ Keep A w w' := by
  have := fforce_w h hv x d hs hm
  rw [hE, hS] at this
  exact this
theorem q_eject {w : World} {A : Nat → Prop} {f : Nat} (h : FA w A f e gd s) (hs : x.size ≤ maxLen) (hl : s.H.length ≤ 4000) (E : Int) (hE : ejE x e gd s = E) (hS : ejS x e gd s = s') : Calls Tryd.prog 33 #[.pointer (some ⟨f, 0, none⟩), .string x] w fun r w' => r = .returned (.int .i64 E) ∧ FA w' A f e gd s' ∧ Keep A w w' := by
  have := feject_w h x hs hl
  rw [hE, hS] at this
  exact this
theorem q_probe {w : World} {A : Nat → Prop} {f : Nat} (h : FA w A f e gd s) (b : Bool) (hE : prB x s = b) (hS : prS x s = s') : Calls Tryd.prog 38 #[.pointer (some ⟨f, 0, none⟩), .string x] w fun r w' => r = .returned (.bool b) ∧ FA w' A f e gd s' ∧ Keep A w w' := by
  have := fprobe_w h x
  rw [hE, hS] at this
  exact this
theorem q_empty {w : World} {A : Nat → Prop} {f : Nat} (h : FA w A f e gd s) (hv : Inv s.L s.M) (b : Bool) (hE : emB x s = b) (hS : emS x s = s') : Calls Tryd.prog 30 #[.pointer (some ⟨f, 0, none⟩), .string x] w fun r w' => r = .returned (.bool b) ∧ FA w' A f e gd s' ∧ Keep A w w' := by
  have := fempty_w h hv x
  rw [hE, hS] at this
  exact this
theorem q_admit {w : World} {A : Nat → Prop} {f : Nat} (h : FA w A f e gd s) (hv : Inv s.L s.M) (d : Int) (hl : s.H.length ≤ 4000) (hm : s.M.length + s.L.length ≤ 4000) (hg : ∀ x ∈ nms s.L, nameB x = true) (N : List ByteArray) (n : Nat) (hn : N.length = n) (hF : adm e gd d s.H s.L s.M = (s', N)) : Calls Tryd.prog 22 #[.pointer (some ⟨f, 0, none⟩), .int .i64 d] w fun r w' => ∃ a c, r = .returned (.slice a n c) ∧ w'.ownsRow w.heap.size 9 1 (.slice a n c) n (sc N) ∧ FA w' A f e gd s' ∧ Keep A w w' := by
  subst hn
  refine (fadmit_w h hv d hl hm hg s' N hF).mono ?_
  rintro r w' ⟨v, rfl, o1, hf, hk⟩
  obtain ⟨a, c, rfl, -, -⟩ := owns_strs o1
  exact ⟨a, c, rfl, o1, hf.fewer (fun k hk => .inl hk) h.a0, hk⟩
theorem q_resolve {w : World} {A : Nat → Prop} {f : Nat} {l : List ByteArray} (h : FA w A f e gd s) (hv : Inv s.L s.M) (al : Option Addr) (nl cl : Nat) (hl : StrsAt w al nl cl l) (hA : ∀ x, al = some x → A x.block) (hls : ∀ x ∈ l, x.size ≤ maxLen) (d : Int) (hn : s.H.length ≤ 3900) (hm : s.M.length + s.H.length ≤ 4000) (hsz : ∀ i, i < s.H.length → (atH s.H i).nm.size ≤ maxLen)
    (E : Int) (C N : List ByteArray) (nc nn : Nat) (hE : reE l = E) (hS : reS l d s = s') (hC : reC l d s = C) (hN : reN l s = N) (hnc : C.length = nc) (hnn : N.length = nn) :
    Calls Tryd.prog 21 #[.pointer (some ⟨f, 0, none⟩), .slice al nl cl, .int .i64 d] w fun r w' => ∃ a c a' c', r = .returned (.tuple #[.slice a nc c, .slice a' nn c', .int .i64 E]) ∧ w'.ownsRow w.heap.size 9 1 (.slice a nc c) nc (sc C) ∧ w'.ownsRow w.heap.size 9 1 (.slice a' nn c') nn (sc N) ∧
      FIn w' (fun k => (A k ∨ bk a' k) ∨ bk a k) f e gd s'.H s'.L s'.M ∧ Keep A w w' := by
  subst hnc hnn hE hS hC hN
  refine (fresolve_w h hv al nl cl hl hA hls d hn hm hsz).mono ?_
  rintro r w' ⟨va, vb, rfl, o1, o2, hf, hk⟩
  obtain ⟨a, c, rfl, -, -⟩ := owns_strs o1
  obtain ⟨a', c', rfl, -, -⟩ := owns_strs o2
  refine ⟨a, c, a', c', rfl, o1, o2, hf.fewer ?_ (.inl (.inl h.a0)), hk⟩
  rintro k ((hk | hk) | hk)
  · exact .inl (.inl hk)
  · exact .inl (.inr (own_bk.2 hk))
  · exact .inr (own_bk.2 hk)
theorem q_ahead {w : World} {A : Nat → Prop} {f : Nat} (h : FA w A f e gd s) (P : Int) (hP : plc x (nms s.L) = P) : Calls Tryd.prog 24 #[.pointer (some ⟨f, 0, none⟩), .string x] w fun r w' => r = .returned (.int .i64 P) ∧ FA w' A f e gd s ∧ Keep A w w' := by
  subst hP
  exact (fahead_w h x).mono fun _ _ ⟨q1, q2⟩ => ⟨q1, h.below q2, keep_below q2⟩
theorem q_cap {w : World} {A : Nat → Prop} {f : Nat} (h : FA w A f e gd s) (hl : s.H.length ≤ 4000) (C : Int) (hC : capF s.H e = C) : Calls Tryd.prog 18 #[.pointer (some ⟨f, 0, none⟩)] w fun r w' => r = .returned (.int .i64 C) ∧ FA w' A f e gd s ∧ Keep A w w' := by
  subst hC
  exact (fcap_w h hl).mono fun _ _ ⟨q1, q2⟩ => ⟨q1, h.below q2, keep_below q2⟩
theorem q_state {w : World} {A : Nat → Prop} {f : Nat} (h : FA w A f e gd s) (t : Int) (b : Bool) (ht : stF x s.H = t) (hb : isH x s.H = b) : Calls Tryd.prog 27 #[.pointer (some ⟨f, 0, none⟩), .string x] w fun r w' => r = .returned (.tuple #[.int .i64 t, .bool b]) ∧ FA w' A f e gd s ∧ Keep A w w' := by
  subst ht hb
  exact (fstate_w h x).mono fun _ _ ⟨q1, q2⟩ => ⟨q1, h.below q2, keep_below q2⟩
theorem q_leaves {w : World} {A : Nat → Prop} {f : Nat} (h : FA w A f e gd s) (b : Bool) (hb : lvF x s.H = b) : Calls Tryd.prog 28 #[.pointer (some ⟨f, 0, none⟩), .string x] w fun r w' => r = .returned (.bool b) ∧ FA w' A f e gd s ∧ Keep A w w' := by
  subst hb
  exact (fleaves_w h x).mono fun _ _ ⟨q1, q2⟩ => ⟨q1, h.below q2, keep_below q2⟩
theorem q_due {w : World} {A : Nat → Prop} {f : Nat} (h : FA w A f e gd s) (d : Int) (hl : s.M.length ≤ 4000) (N : List ByteArray) (n : Nat) (hN : dueL d s.M = N) (hn : N.length = n) : Calls Tryd.prog 29 #[.pointer (some ⟨f, 0, none⟩), .int .i64 d] w fun r w' => ∃ a c, r = .returned (.slice a n c) ∧ StrsAt w' a n c N ∧ (∀ x, a = some x → w.heap.size ≤ x.block) ∧ FA w' A f e gd s ∧ Keep A w w' := by
  subst hN hn
  refine (fdue_w h d hl).mono ?_
  rintro r w' ⟨v, rfl, o1, hb⟩
  obtain ⟨a, c, rfl, hs, hbl⟩ := owns_strs o1
  exact ⟨a, c, rfl, hs, fun x hx => (hbl x hx).1, h.below hb, keep_below hb⟩
theorem q_new (e gd : Int) (w : World) (ht : St.Tabs w) : Calls Tryd.prog 12 #[.int .i64 e, .int .i64 gd] w fun r w' => ∃ f, r = .returned (.pointer (some ⟨f, 0, none⟩)) ∧ FA w' (fun k => k < w.heap.size) f e gd ⟨[], [], []⟩ ∧ Below w.heap.size w w' :=
  (fnew_w e gd w ht).mono fun _ _ ⟨f, q1, _, q3, q4⟩ => ⟨f, q1, q3, q4⟩
end

theorem stF_sta {x : ByteArray} {g : ByteArray → Int × Bool} {l : List ByteArray} (h : x ∈ l) : stF x (sta g l) = (g x).1 := by
  unfold stF
  rw [if_pos (isH_sta.2 h), ofN_sta h]
theorem act_all (l : List Int) (h : ∀ x ∈ l, x = 0) : Gd.act l = l.length := by
  induction l with
  | nil => rfl
  | cons a l ih =>
    have := h a (by simp)
    have h2 := ih (fun x hx => h x (by simp [hx]))
    subst this
    simp [Gd.act, h2]
    omega
theorem capF_one {H : List Hs} {e : Int} (hl : H.length ≤ 4000) (h0 : 0 < e) (he : e ≤ 1000) : capF H e = (Gd.act (hz H) : Int) * e := by
  have h1 := Gd.act_le (hz H)
  rw [hz_length] at h1
  unfold capF
  rw [Gd.capI_small (by omega) (by omega) he]
  unfold Gd.pos
  rw [if_pos h0]
end Go.Proofs.YtmlkpfkeeifgeaaDoor
namespace Go.Proofs.YtmlkpfkeeifgeaaDoor

section
variable {l : List ByteArray} {x : ByteArray}
def u0 (l : List ByteArray) : Fl := ⟨sta g0 l, [], []⟩
def u1 (l : List ByteArray) (x : ByteArray) : Fl := ⟨sta g0 l, [(x, 0)], []⟩
def u2 (l : List ByteArray) (x : ByteArray) : Fl := ⟨sta (up g0 x (1, false)) l, [], [(x, 9)]⟩
def u3 (l : List ByteArray) (x : ByteArray) : Fl := ⟨sta (up g0 x (3, false)) l, [], []⟩
theorem isIn_one (x : ByteArray) (d : Int) : isIn x [(x, d)] = true := isIn_iff.2 (by simp [nms])
theorem isIn_nil (x : ByteArray) : isIn x [] = false := isIn_not.2 (by simp [nms])
theorem wo_one (x : ByteArray) (d : Int) : wo x [(x, d)] = [] := by simp [wo]
theorem up_g0 (x : ByteArray) (p : Int × Bool) : up (up g0 x p) x (0, false) = g0 := by
  rw [up_up]
  exact up_self g0 x

theorem und_d1 (h0 : nameB x = true) (hx : x ∈ l) : drE x (u0 l) = 0 ∧ drS x (u0 l) = u1 l x := by
  have h1 : drE x (u0 l) = 0 := by
    unfold drE u0
    rw [if_pos (errF_sta h0 hx), ofN_sta hx]
    simp [g0, askE, h0, isIn_nil]
  refine ⟨h1, ?_⟩
  unfold drS
  rw [if_pos h1]
  simp [u0, u1, askL, h0, isIn_nil]
theorem und_d2 (h0 : nameB x = true) (hx : x ∈ l) : drE x (u1 l x) = 6 ∧ drS x (u1 l x) = u1 l x := by
  have h1 : drE x (u1 l x) = 6 := by
    unfold drE u1
    rw [if_pos (errF_sta h0 hx), ofN_sta hx]
    simp [g0, askE, h0, isIn_one]
  refine ⟨h1, ?_⟩
  unfold drS
  rw [h1]
  rfl
theorem und_a1 : plc x (nms (u1 l x).L) = 0 := by
  rw [plc_mem (by simp [u1, nms])]
  simp [u1, nms, fidx]
theorem may_yes {H : List Hs} {e : Int} (h : isH x H = true) : mayF x H e 0 = true := by
  unfold mayF
  rw [(pl_yes h).1]
  have h1 := (pl_yes h).2
  unfold Gd.mayB
  have h2 : Gd.has (hz H).length ((plN x H : Nat) : Int) = true := Gd.has_iff.2 ⟨by omega, by rw [hz_length]; omega⟩
  rw [h2, decide_eq_true (Gd.capI_lo _ _)]
  simp
theorem und_ad (hn : l.Nodup) (h0 : nameB x = true) (hx : x ∈ l) : adm 1 0 9 (u1 l x).H (u1 l x).L (u1 l x).M = (u2 l x, [x]) := by
  have hm : mayF (x, (0 : Int)).1 (sta g0 l) 1 0 = true := may_yes (isH_sta.2 hx)
  show adm 1 0 9 (sta g0 l) [(x, 0)] [] = _
  rw [adm_yes hm]
  show ((adm 1 0 9 (tnH (plN x (sta g0 l)) 0 (sta g0 l)) [] (begM x 9 [])).1, x :: (adm 1 0 9 (tnH (plN x (sta g0 l)) 0 (sta g0 l)) [] (begM x 9 [])).2) = _
  rw [tnH_sta hn hx]
  have e1 : St.nx (g0 x).1 0 = 1 := rfl
  have e2 : begM x 9 [] = [(x, 9)] := by
    unfold begM
    rw [if_neg (by rw [h0]; simp), if_neg (by rw [isIn_nil]; simp)]
    rfl
  rw [e1, e2]
  rfl
theorem und_em (hn : l.Nodup) (hx : x ∈ l) : emB x (u2 l x) = true ∧ emS x (u2 l x) = u3 l x := by
  have h1 : emB x (u2 l x) = true := by
    unfold emB u2
    rw [isH_sta.2 hx, ofN_sta hx, up_same]
    rfl
  refine ⟨h1, ?_⟩
  unfold emS
  rw [if_pos h1]
  show Fl.mk (if (ofN x (sta (up g0 x (1, false)) l)).lv = true then _ else tnH (plN x (sta (up g0 x (1, false)) l)) 4 (sta (up g0 x (1, false)) l)) [] (wo x [(x, 9)]) = _
  rw [ofN_sta hx, up_same, wo_one, tnH_sta hn hx, up_same, up_up]
  rfl
theorem und_u1 (h0 : nameB x = true) (hx : x ∈ l) : unE x (u1 l x) = 0 ∧ unS x (u1 l x) = u0 l := by
  have h1 : unE x (u1 l x) = 0 := by
    unfold unE u1
    rw [if_pos (errF_sta h0 hx), ofN_sta hx, isIn_one]
    rfl
  refine ⟨h1, ?_⟩
  unfold unS
  rw [if_pos h1]
  show Fl.mk (if isIn x [(x, 0)] = true then sta g0 l else _) (wo x [(x, 0)]) [] = _
  rw [isIn_one, if_pos rfl, wo_one]
  rfl
theorem und_u2 (hn : l.Nodup) (h0 : nameB x = true) (hx : x ∈ l) : unE x (u2 l x) = 0 ∧ unS x (u2 l x) = u0 l := by
  have h1 : unE x (u2 l x) = 0 := by
    unfold unE u2
    rw [if_pos (errF_sta h0 hx), ofN_sta hx, up_same, isIn_nil]
    rfl
  refine ⟨h1, ?_⟩
  unfold unS
  rw [if_pos h1]
  show Fl.mk (if isIn x [] = true then _ else tnH (plN x (sta (up g0 x (1, false)) l)) 1 (sta (up g0 x (1, false)) l)) [] (wo x [(x, 9)]) = _
  rw [isIn_nil, if_neg (by simp), tnH_sta hn hx, up_same, wo_one]
  have e1 : St.nx 1 1 = 0 := rfl
  rw [e1, up_g0]
  rfl
theorem und_u3 (hn : l.Nodup) (h0 : nameB x = true) (hx : x ∈ l) : unE x (u3 l x) = 0 ∧ unS x (u3 l x) = u0 l := by
  have h1 : unE x (u3 l x) = 0 := by
    unfold unE u3
    rw [if_pos (errF_sta h0 hx), ofN_sta hx, up_same, isIn_nil]
    rfl
  refine ⟨h1, ?_⟩
  unfold unS
  rw [if_pos h1]
  show Fl.mk (if isIn x [] = true then _ else tnH (plN x (sta (up g0 x (3, false)) l)) 1 (sta (up g0 x (3, false)) l)) [] [] = _
  rw [isIn_nil, if_neg (by simp), tnH_sta hn hx, up_same]
  have e1 : St.nx 3 1 = 0 := rfl
  rw [e1, up_g0]
  rfl
theorem und_u0 (h0 : nameB x = true) (hx : x ∈ l) : unE x (u0 l) = 8 ∧ unS x (u0 l) = u0 l := by
  have h1 : unE x (u0 l) = 8 := by
    unfold unE u0
    rw [if_pos (errF_sta h0 hx), ofN_sta hx, isIn_nil]
    rfl
  refine ⟨h1, ?_⟩
  unfold unS
  rw [h1]
  rfl
theorem und_st (hx : x ∈ l) : stF x (u0 l).H = 0 ∧ isH x (u0 l).H = true := ⟨stF_sta hx, isH_sta.2 hx⟩
theorem cap_g0 (hl : l.length ≤ 4000) : capF (u0 l).H 1 = l.length := by
  have h1 : (sta g0 l).length ≤ 4000 := by rw [sta_length]; exact hl
  show capF (sta g0 l) 1 = _
  rw [capF_one h1 (by decide) (by decide), hz_sta, act_all _ (by simp [g0]), List.length_map, Int.mul_one]
theorem u1_inv : Inv (u1 l x).L (u1 l x).M := ⟨by simp [u1, nms], by simp [u1, nms], by simp [u1, nms], by simp [u1]⟩
theorem u2_inv : Inv (u2 l x).L (u2 l x).M := ⟨by simp [u2, nms], by simp [u2, nms], by simp [u2, nms], by simp [u2]⟩
end
end Go.Proofs.YtmlkpfkeeifgeaaDoor
namespace Go.Proofs.YtmlkpfkeeifgeaaDoor

section
variable {l : List ByteArray} {x : ByteArray} {g : ByteArray → Int × Bool} {d e gd : Int}
def z0F (g : ByteArray → Int × Bool) (l : List ByteArray) : Fl := ⟨sta g l, [], []⟩
def z1F (g : ByteArray → Int × Bool) (l : List ByteArray) (x : ByteArray) (d : Int) : Fl := ⟨sta (up g x (1, false)) l, [], [(x, cut d)]⟩

theorem for_f (hn : l.Nodup) (h0 : nameB x = true) (hx : x ∈ l) (hg : g x = (0, false)) : foE x (z0F g l) = 0 ∧ foS x d (z0F g l) = z1F g l x d := by
  have h1 : foE x (z0F g l) = 0 := by
    unfold foE z0F
    rw [if_pos (errF_sta h0 hx), ofN_sta hx, hg]
    rfl
  refine ⟨h1, ?_⟩
  unfold foS
  rw [if_pos h1]
  show Fl.mk (tnH (plN x (sta g l)) 0 (sta g l)) (begL x [] []) (begM x d []) = _
  have e1 : begL x [] [] = [] := by
    unfold begL
    split <;> (try split) <;> rfl
  have e2 : begM x d [] = [(x, cut d)] := by
    unfold begM
    rw [if_neg (by rw [h0]; simp), if_neg (by rw [isIn_nil]; simp)]
    rfl
  rw [tnH_sta hn hx, hg, e1, e2]
  rfl
theorem for_s1 (hx : x ∈ l) : stF x (z1F g l x d).H = 1 ∧ isH x (z1F g l x d).H = true := ⟨by show stF x (sta _ l) = 1; rw [stF_sta hx, up_same], isH_sta.2 hx⟩
theorem for_due : dueL d (z1F g l x d).M = [x] := by
  show dueL d [(x, cut d)] = _
  unfold dueL
  have : past d (x, cut d).2 = true := by unfold past; rw [cut_cut]; simp
  simp [this, nms]
theorem for_u (hn : l.Nodup) (h0 : nameB x = true) (hx : x ∈ l) (hg : g x = (0, false)) : unE x (z1F g l x d) = 0 ∧ unS x (z1F g l x d) = z0F g l := by
  have h1 : unE x (z1F g l x d) = 0 := by
    unfold unE z1F
    rw [if_pos (errF_sta h0 hx), ofN_sta hx, up_same, isIn_nil]
    rfl
  refine ⟨h1, ?_⟩
  unfold unS
  rw [if_pos h1]
  show Fl.mk (if isIn x [] = true then _ else tnH (plN x (sta (up g x (1, false)) l)) 1 (sta (up g x (1, false)) l)) [] (wo x [(x, cut d)]) = _
  rw [isIn_nil, if_neg (by simp), tnH_sta hn hx, up_same, wo_one, up_up]
  have e1 : ((St.nx 1 1, false) : Int × Bool) = g x := by rw [hg]; rfl
  rw [e1, up_self]
  rfl
theorem for_s0 (hx : x ∈ l) (hg : g x = (0, false)) : stF x (z0F g l).H = 0 ∧ isH x (z0F g l).H = true := ⟨by show stF x (sta _ l) = 0; rw [stF_sta hx, hg], isH_sta.2 hx⟩
theorem for_u0 (h0 : nameB x = true) (hx : x ∈ l) (hg : g x = (0, false)) : unE x (z0F g l) = 8 ∧ unS x (z0F g l) = z0F g l := by
  have h1 : unE x (z0F g l) = 8 := by
    unfold unE z0F
    rw [if_pos (errF_sta h0 hx), ofN_sta hx, isIn_nil, hg]
    rfl
  refine ⟨h1, ?_⟩
  unfold unS
  rw [h1]
  rfl
theorem for_e (hn : l.Nodup) (hx : x ∈ l) : emB x (z1F g l x d) = true ∧ emS x (z1F g l x d) = z0F (up g x (3, false)) l := by
  have h1 : emB x (z1F g l x d) = true := by
    unfold emB z1F
    rw [isH_sta.2 hx, ofN_sta hx, up_same]
    rfl
  refine ⟨h1, ?_⟩
  unfold emS
  rw [if_pos h1]
  show Fl.mk (if (ofN x (sta (up g x (1, false)) l)).lv = true then _ else tnH (plN x (sta (up g x (1, false)) l)) 4 (sta (up g x (1, false)) l)) [] (wo x [(x, cut d)]) = _
  rw [ofN_sta hx, up_same, wo_one, tnH_sta hn hx, up_same, up_up]
  rfl
/-- What is told of one that is retired. -/
theorem for_r (h0 : nameB x = true) (hx : x ∈ l) (hg : (g x).1 = 3) : stF x (z0F g l).H = 3 ∧ isH x (z0F g l).H = true ∧ foE x (z0F g l) = 8 ∧ foS x d (z0F g l) = z0F g l ∧ drE x (z0F g l) = 8 ∧ drS x (z0F g l) = z0F g l ∧ ejE x e gd (z0F g l) = 8 ∧ ejS x e gd (z0F g l) = z0F g l := by
  have h1 : foE x (z0F g l) = 8 := by
    unfold foE z0F
    rw [if_pos (errF_sta h0 hx), ofN_sta hx]
    dsimp only
    rw [hg]
    rfl
  have h2 : drE x (z0F g l) = 8 := by
    unfold drE z0F
    rw [if_pos (errF_sta h0 hx), ofN_sta hx]
    dsimp only
    rw [hg]
    rfl
  have h3 : ejE x e gd (z0F g l) = 8 := by
    unfold ejE z0F
    rw [if_pos (errF_sta h0 hx), ofN_sta hx]
    dsimp only
    rw [hg]
    rfl
  refine ⟨by show stF x (sta _ l) = 3; rw [stF_sta hx, hg], isH_sta.2 hx, h1, ?_, h2, ?_, h3, ?_⟩
  · unfold foS; rw [h1]; rfl
  · unfold drS; rw [h2]; rfl
  · unfold ejS; rw [h3]; rfl
end

theorem fidx_nodup : ∀ {l : List ByteArray}, l.Nodup → ∀ i, i < l.length → fidx (l.getD i ⟨#[]⟩) l = i
  | [], _, i, h => by simp at h
  | y :: l, hn, 0, _ => by simp [fidx]
  | y :: l, hn, i + 1, h => by
    have hy : y ∉ l ∧ l.Nodup := by simpa using hn
    have hi : i < l.length := by simpa using h
    have hm := getD_mem hi
    unfold fidx
    have hne : ¬ y = (y :: l).getD (i + 1) ⟨#[]⟩ := by
      intro e
      have : (y :: l).getD (i + 1) ⟨#[]⟩ = l.getD i ⟨#[]⟩ := by simp
      rw [this] at e
      exact hy.1 (e ▸ hm)
    rw [if_neg hne]
    have : (y :: l).getD (i + 1) ⟨#[]⟩ = l.getD i ⟨#[]⟩ := by simp
    rw [this, fidx_nodup hy.2 i hi]
/-- The first k of l are retired. -/
def gr (l : List ByteArray) (k : Nat) : ByteArray → Int × Bool := fun x => if fidx x l < k then (3, false) else (0, false)
theorem gr_zero (l : List ByteArray) : gr l 0 = g0 := by
  funext x
  unfold gr g0
  rw [if_neg (by omega)]
theorem gr_at {l : List ByteArray} (hn : l.Nodup) {i : Nat} (hi : i < l.length) : gr l i (l.getD i ⟨#[]⟩) = (0, false) := by
  unfold gr
  rw [fidx_nodup hn i hi, if_neg (by omega)]
theorem gr_up {l : List ByteArray} (hn : l.Nodup) {i : Nat} (hi : i < l.length) : sta (up (gr l i) (l.getD i ⟨#[]⟩) (3, false)) l = sta (gr l (i + 1)) l := by
  apply sta_congr
  intro y hy
  unfold up gr
  have hf := (fidx_mem y l).2 hy
  by_cases h1 : y = l.getD i ⟨#[]⟩
  · rw [if_pos h1, h1, fidx_nodup hn i hi, if_pos (by omega)]
  · rw [if_neg h1]
    have h2 : fidx y l ≠ i := fun e => h1 (by rw [← e, fidx_at y l hf])
    by_cases h3 : fidx y l < i
    · rw [if_pos h3, if_pos (by omega)]
    · rw [if_neg h3, if_neg (by omega)]
theorem act_rep0 (n : Nat) : Gd.act (List.replicate n 0) = n := by
  have := act_all (List.replicate n 0) (fun x hx => (List.mem_replicate.1 hx).2)
  simpa using this
theorem act_rep3 : ∀ n, Gd.act (List.replicate n 3) = 0
  | 0 => rfl
  | n + 1 => by
    have := act_rep3 n
    simp [List.replicate, Gd.act, this]
theorem hz_gr {l : List ByteArray} (hn : l.Nodup) {k : Nat} (hk : k ≤ l.length) : hz (sta (gr l k) l) = List.replicate k 3 ++ List.replicate (l.length - k) 0 := by
  rw [hz_sta]
  apply List.ext_getElem?
  intro i
  by_cases hi : i < l.length
  · have e1 : (l.map fun x => (gr l k x).1)[i]? = some (gr l k (l.getD i ⟨#[]⟩)).1 := by
      rw [List.getElem?_map, List.getElem?_eq_getElem hi]
      simp [List.getD, hi]
    rw [e1]
    unfold gr
    rw [fidx_nodup hn i hi]
    by_cases h : i < k
    · rw [if_pos h, List.getElem?_append_left (by simpa using h), List.getElem?_replicate, if_pos h]
    · rw [if_neg h, List.getElem?_append_right (by simp; omega), List.getElem?_replicate, if_pos (by simp; omega)]
  · rw [List.getElem?_eq_none (by simp; omega), List.getElem?_eq_none (by simp; omega)]
theorem cap_gr {l : List ByteArray} (hn : l.Nodup) (h4 : l.length ≤ 4000) {k : Nat} (hk : k ≤ l.length) : capF (z0F (gr l k) l).H 1 = (l.length : Int) - k := by
  show capF (sta (gr l k) l) 1 = _
  rw [capF_one (by rw [sta_length]; exact h4) (by decide) (by decide), hz_gr hn hk, Gd.act_append, act_rep3, act_rep0]
  omega
def bN : ByteArray := ⟨#[110, 111, 98, 111, 100, 121]⟩
def bQ : ByteArray := ⟨#[63]⟩
theorem for_n {l : List ByteArray} (hs : ∀ s ∈ l, s ∈ names6) (g : ByteArray → Int × Bool) (d : Int) : foE bN (z0F g l) = 5 ∧ foS bN d (z0F g l) = z0F g l := by
  have h6 : ∀ s ∈ names6, s.size = 2 := fun s hs => by
    simp [names6] at hs
    rcases hs with rfl | rfl | rfl | rfl | rfl | rfl <;> rfl
  have hb : bN ∉ l := fun h => absurd (h6 _ (hs _ h)) (by decide +kernel)
  have h1 : foE bN (z0F g l) = 5 := by
    unfold foE z0F
    have : errF bN (sta g l) = 5 := by
      unfold errF
      rw [if_neg (by decide +kernel), if_pos (isH_sta'.2 hb)]
    rw [if_neg (by rw [this]; decide), this]
  exact ⟨h1, by unfold foS; rw [h1]; rfl⟩
theorem for_q (l : List ByteArray) (g : ByteArray → Int × Bool) (d : Int) : foE bQ (z0F g l) = 11 ∧ foS bQ d (z0F g l) = z0F g l := by
  have h1 : foE bQ (z0F g l) = 11 := by
    unfold foE z0F
    have : errF bQ (sta g l) = 11 := by
      unfold errF
      rw [if_pos (by decide +kernel)]
    rw [if_neg (by rw [this]; decide), this]
  exact ⟨h1, by unfold foS; rw [h1]; rfl⟩
end Go.Proofs.YtmlkpfkeeifgeaaDoor
namespace Go.Proofs.YtmlkpfkeeifgeaaDoor
open Go.ChangeShapes Go.WideShapes Go.ChangeAt Go.RowKit

/-- Of the names l: what was asked, what was admitted, the state. -/
structure RowI (l asked got : List ByteArray) (s : Fl) (i : Nat) : Prop where
  ex : ∃ g, s.H = sta g l ∧ (∀ x, (g x).1 = 0 ∨ (g x).1 = 1) ∧ ∀ x ∈ nms s.L, (g x).1 = 0
  row : got ++ nms s.L = asked
  inv : Inv s.L s.M
  few : s.M.length + s.L.length ≤ i
  mem : ∀ x ∈ nms s.L, x ∈ l
  al : asked.length ≤ i
theorem RowI.start (l : List ByteArray) : RowI l [] [] ⟨sta g0 l, [], []⟩ 0 := ⟨⟨g0, rfl, fun _ => .inl rfl, fun x hx => by cases hx⟩, rfl, Inv.nil, Nat.le_refl _, fun x hx => (by cases hx), Nat.le_refl _⟩
theorem RowI.more {l asked got : List ByteArray} {s : Fl} {i : Nat} (h : RowI l asked got s i) : RowI l asked got s (i + 1) := ⟨h.ex, h.row, h.inv, by have := h.few; omega, h.mem, by have := h.al; omega⟩
theorem RowI.len {l asked got : List ByteArray} {s : Fl} {i : Nat} (h : RowI l asked got s i) : got.length + s.L.length = asked.length := by
  rw [← h.row, List.length_append, nms_length]
theorem drE_zero {x : ByteArray} {s : Fl} (h : drE x s = 0) : ¬ ((ofN x s.H).st = 1 ∨ (ofN x s.H).st = 3) ∧ isIn x s.L = false ∧ isIn x s.M = false ∧ s.L.length < 16 ∧ askL x s.L s.M = s.L ++ [(x, 0)] ∧ drS x s = ⟨s.H, s.L ++ [(x, 0)], s.M⟩ := by
  have h0 := h
  unfold drE at h
  split at h
  · split at h
    · cases h
    · rename_i h2
      have e1 : nameB x = true ∧ (isIn x s.L || isIn x s.M) = false ∧ ¬ 16 ≤ s.L.length := by
        unfold askE at h
        split at h
        · cases h
        · split at h
          · cases h
          · split at h
            · cases h
            · rename_i q1 q2 q3
              exact ⟨by simpa using q1, by simpa using q2, q3⟩
      have e2 : askL x s.L s.M = s.L ++ [(x, 0)] := by
        unfold askL
        rw [if_neg (by rw [e1.1]; simp), if_neg (by rw [e1.2.1]; simp), if_neg e1.2.2]
      have e3 : isIn x s.L = false ∧ isIn x s.M = false := by
        have := e1.2.1
        simp only [Bool.or_eq_false_iff] at this
        exact this
      refine ⟨h2, e3.1, e3.2, by omega, e2, ?_⟩
      unfold drS
      rw [if_pos h0, e2]
  · rename_i h2
    exact absurd h h2
theorem drS_same {x : ByteArray} {s : Fl} (h : ¬ drE x s = 0) : drS x s = s := by unfold drS; rw [if_neg h]
theorem RowI.drain {l asked got : List ByteArray} {s : Fl} {i : Nat} {x : ByteArray} (h : RowI l asked got s i) (hx : x ∈ l) (hE : drE x s = 0) : RowI l (asked ++ [x]) got (drS x s) (i + 1) ∧ plc x (nms (drS x s).L) = (asked.length : Int) - got.length := by
  obtain ⟨h1, h2, h3, h4, _, h6⟩ := drE_zero hE
  rw [h6]
  obtain ⟨g, e1, e2, e3⟩ := h.ex
  have hn : nms (s.L ++ [(x, 0)]) = nms s.L ++ [x] := by simp [nms]
  have hxL := isIn_not.1 h2
  refine ⟨⟨⟨g, e1, e2, ?_⟩, ?_, h.inv.ask hxL (isIn_not.1 h3) h4, ?_, ?_, by have := h.al; simp; omega⟩, ?_⟩
  · intro y hy
    rw [hn] at hy
    rcases List.mem_append.1 hy with hy | hy
    · exact e3 y hy
    · have hyx : y = x := by simpa using hy
      subst hyx
      rw [e1, ofN_sta hx] at h1
      rcases e2 y with e | e
      · exact e
      · exact absurd (.inl e) h1
  · rw [hn, ← h.row, List.append_assoc]
  · have := h.few; simp; omega
  · intro y hy
    rw [hn] at hy
    rcases List.mem_append.1 hy with hy | hy
    · exact h.mem y hy
    · have hyx : y = x := by simpa using hy
      exact hyx ▸ hx
  · show plc x (nms (s.L ++ [(x, 0)])) = _
    have hl := h.len
    rw [hn, plc_mem (by simp)]
    have : fidx x (nms s.L ++ [x]) = (nms s.L).length := by
      generalize nms s.L = m at hxL
      induction m with
      | nil => simp [fidx]
      | cons a m ih =>
        have ha : ¬ a = x := fun e => hxL (by simp [e])
        have := ih (fun e => hxL (by simp [e]))
        simp [fidx, ha, this]
    rw [this, nms_length]
    omega

/-- What the admission of drains leaves. -/
theorem adm_row {l : List ByteArray} (hn : l.Nodup) (e gd d : Int) : ∀ (L M : List Dr) (g : ByteArray → Int × Bool), (∀ x, (g x).1 = 0 ∨ (g x).1 = 1) → (∀ x ∈ nms L, (g x).1 = 0) → (∀ x ∈ nms L, x ∈ l) → Inv L M →
    ∃ g', (adm e gd d (sta g l) L M).1.H = sta g' l ∧ (∀ x, (g' x).1 = 0 ∨ (g' x).1 = 1) ∧ (∀ x ∈ nms (adm e gd d (sta g l) L M).1.L, (g' x).1 = 0) ∧ (adm e gd d (sta g l) L M).2 ++ nms (adm e gd d (sta g l) L M).1.L = nms L ∧ Inv (adm e gd d (sta g l) L M).1.L (adm e gd d (sta g l) L M).1.M ∧
      (adm e gd d (sta g l) L M).1.M.length + (adm e gd d (sta g l) L M).1.L.length ≤ M.length + L.length ∧ (∀ p L', (adm e gd d (sta g l) L M).1.L = p :: L' → mayF p.1 (sta g' l) e gd = false)
  | [], M, g, h1, _, _, hv => ⟨g, rfl, h1, fun x hx => (by cases hx), rfl, hv, Nat.le_refl _, fun p L' h => (by cases h)⟩
  | p :: L, M, g, h1, h2, h3, hv => by
    cases hm : mayF p.1 (sta g l) e gd with
    | false =>
      rw [adm_no hm]
      exact ⟨g, rfl, h1, h2, rfl, hv, Nat.le_refl _, fun q L' h => by (cases h; exact hm)⟩
    | true =>
      obtain ⟨hvt, hnt, hmt, hbl⟩ := hv.tail
      have hx : p.1 ∈ l := h3 _ (by simp [nms])
      rw [adm_yes hm, tnH_sta hn hx, h2 p.1 (by simp [nms])]
      have hu : ∀ x, (up g p.1 (St.nx 0 0, (g p.1).2) x).1 = 0 ∨ (up g p.1 (St.nx 0 0, (g p.1).2) x).1 = 1 := fun x => by
        unfold up
        split
        · exact .inr rfl
        · exact h1 x
      have hu2 : ∀ x ∈ nms L, (up g p.1 (St.nx 0 0, (g p.1).2) x).1 = 0 := fun x hx => by
        have : x ≠ p.1 := fun e => hnt (e ▸ hx)
        rw [up_ne this]
        exact h2 x (by simp [nms] at hx ⊢; exact .inr hx)
      have hv2 : Inv L (begM p.1 d M) := by
        have := hvt.begun p.1 d
        rwa [hbl] at this
      obtain ⟨g', q1, q2, q3, q4, q5, q6, q7⟩ := adm_row hn e gd d L (begM p.1 d M) _ hu hu2 (fun x hx => h3 x (by simp [nms] at hx ⊢; exact .inr hx)) hv2
      refine ⟨g', q1, q2, q3, ?_, q5, ?_, q7⟩
      · have hp : nms (p :: L) = p.1 :: nms L := rfl
        rw [hp, ← q4]
        rfl
      · have := begM_len p.1 d M
        simp
        omega
theorem RowI.admit {l asked got : List ByteArray} {s : Fl} {i : Nat} (h : RowI l asked got s i) (hn : l.Nodup) (h4 : l.length ≤ 4000) (e gd d : Int) (h0 : 0 < e) (he : e ≤ 1000) : RowI l asked (got ++ (adm e gd d s.H s.L s.M).2) (adm e gd d s.H s.L s.M).1 (i + 1) ∧
    (got.length + (adm e gd d s.H s.L s.M).2.length < asked.length → capF (adm e gd d s.H s.L s.M).1.H e - e < gd) := by
  obtain ⟨g, e1, e2, e3⟩ := h.ex
  have hr := h.row
  have hf := h.few
  have hmm := h.mem
  have hv := h.inv
  obtain ⟨g', q1, q2, q3, q4, q5, q6, q7⟩ := adm_row hn e gd d s.L s.M g e2 e3 hmm hv
  rw [← e1] at q1 q3 q4 q5 q6 q7
  generalize adm e gd d s.H s.L s.M = R at *
  have hrow : (got ++ R.2) ++ nms R.1.L = asked := by rw [List.append_assoc, q4, hr]
  refine ⟨⟨⟨g', q1, q2, q3⟩, hrow, q5, by omega, fun x hx => hmm x (by rw [← q4]; simp [hx]), by have := h.al; omega⟩, fun hlt => ?_⟩
  have hlen := congrArg List.length hrow
  rw [List.length_append, List.length_append, nms_length] at hlen
  cases hL : R.1.L with
  | nil => rw [hL] at hlen; simp at hlen; omega
  | cons p L' =>
    have hm := q7 p L' hL
    have hx : p.1 ∈ l := hmm _ (by rw [← q4, hL]; simp [nms])
    have hst := q3 p.1 (by rw [hL]; simp [nms])
    have hlt2 := (pl_yes (isH_sta (g := g').2 hx)).2
    have hz0 : (hz (sta g' l)).getD (plN p.1 (sta g' l)) 0 = 0 := by
      rw [hz_getD]
      have := ofN_sta (g := g') hx
      unfold ofN at this
      rw [this]
      exact hst
    unfold mayF at hm
    rw [(pl_yes (isH_sta (g := g').2 hx)).1, Gd.mayB_act ⟨by omega, by rw [hz_length]; omega⟩ (by rw [Int.toNat_natCast]; exact hz0)] at hm
    have hact : 1 ≤ Gd.act (hz (sta g' l)) := by
      have := Gd.act_left (L := hz (sta g' l)) (k := plN p.1 (sta g' l)) (by rw [hz_length]; exact hlt2) hz0
      omega
    have hle := Gd.act_le (hz (sta g' l))
    rw [hz_length, sta_length] at hle
    rw [Gd.capI_small (by omega) (by omega) he] at hm
    have hpos : Gd.pos e = e := Gd.pos_pos h0
    rw [hpos] at hm
    have hm' := of_decide_eq_false hm
    rw [q1, capF_one (by rw [sta_length]; exact h4) h0 he]
    have hmul : ((Gd.act (hz (sta g' l)) : Int) - 1) * e = (Gd.act (hz (sta g' l)) : Int) * e - e := by rw [Int.sub_mul, Int.one_mul]
    omega

/-- Texts are appended, whatever the slice is that they come from: where the row lies then. -/
theorem wpList_strsAt (w : World) {ops : Array Oper} {rest : List Oper} {o : Oper} {a : Act} {Q : Exit → Act → World → Prop} (hgd : o.guard = none) (s x : Operand)
    (ho : o.op = .call { callee := .builtin .append, args := #[s, x], argTypes := #[27, 27] }) (base : Nat) (v : Value) (n : Nat) (xs ys : List ByteArray) (hs : a.eval s = v) (hown : w.ownsRow base 9 1 v n (sc xs)) (ao : Option Addr) (m c : Nat)
    (hx : a.eval x = .slice ao m c) (hB : StrsAt w ao m c ys) (hnone : ao = none → m = 0 ∧ c = 0) (hnm : n + m ≤ 5000) (hbase : base ≤ w.heap.size)
    (h : ∀ v' w', w'.ownsRow base 9 1 v' (n + m) (sc (xs ++ ys)) → w.grownBy w' v.ownBlock → (v'.ownBlock = v.ownBlock ∨ v'.ownBlock = some w.heap.size) → wpList Tryd.prog ops Q rest (a.put o.dst v') w') : wpList Tryd.prog ops Q (o :: rest) a w := by
  obtain ⟨i, hi, hz0, hz1, hz2⟩ := info_parts info9
  cases ao with
  | none =>
    obtain ⟨rfl, rfl⟩ := hnone rfl
    obtain rfl : ys = [] := List.eq_nil_of_length_eq_zero hB.hlen
    exact wpList_append_own_none hgd s x 27 ho base 9 i 1 Tryd.underlying27 hi v n _ hs hown hx (h v w (by simpa using hown) (World.grownBy.refl _ _) (.inl rfl))
  | some ad =>
    have hnews : ∀ j u, (sc ys)[j]? = some u → w.cell? (ad.add j) = some u := by
      intro j u hu
      have hj : j < ys.length := by
        have := (List.getElem?_eq_some_iff.1 hu).1
        simpa [sc_length] using this
      obtain ⟨b, off, e, _, hc⟩ := hB.at_ j (by have := hB.hlen; omega)
      cases e
      have e0 : ((⟨b, off, none⟩ : Addr).add j) = ⟨b, off + j, none⟩ := by unfold Addr.add; split <;> simp_all
      rw [e0, hc]
      simp [sc, List.getD, hj] at hu ⊢
      exact hu
    obtain ⟨v', w', hr, h2, h3, _, h5⟩ := run_append_own_at (P := Tryd.prog) w base 27 o.type 9 i (.string ⟨#[]⟩) 1 16 Tryd.underlying27 hi hz0 hz1 hz2 rfl (by decide) v n _ hown ad m c (sc ys) (by rw [sc_length, hB.hlen, Nat.mul_one]) hnews (sc_one _) (by unfold maxLen; omega) (by omega) hbase
    refine wpList_plain hgd fun K hK => ?_
    unfold Oper.wp execOp
    simp only [ho, resolve, invoke, builtin, Sem.run_bind, Sem.run_pure, Result.andThen_ok, List.map_toArray, List.map_cons, List.map_nil, hs, hx, hr]
    exact hK _ _ (h v' w' (by rw [sc_append]; exact h2) h3 h5)

/-- Two rows of names (v1, v2) beside a fleet. -/
structure RwW (w0 : World) (A : Nat → Prop) (f : Nat) (e gd : Int) (O1 O2 : List ByteArray) (s : Fl) (v1 v2 : Value) (w : World) : Prop where
  o1 : w.ownsRow w0.heap.size 9 1 v1 O1.length (sc O1)
  o2 : w.ownsRow w0.heap.size 9 1 v2 O2.length (sc O2)
  ap : ∀ k, v1.ownBlock = some k → v2.ownBlock ≠ some k
  fin : FIn w (fun k => A k ∨ v1.ownBlock = some k ∨ v2.ownBlock = some k) f e gd s.H s.L s.M
  kp : Keep A w0 w
  g0 : ∀ k, A k → k < w0.heap.size
  a0 : A 0
  pos : 0 < w0.heap.size
section
variable {w0 w w' : World} {A : Nat → Prop} {f : Nat} {e gd : Int} {O1 O2 : List ByteArray} {s t : Fl} {v1 v2 : Value}
theorem RwW.start (h : FA w0 A f e gd s) : RwW w0 A f e gd [] [] s (.slice none 0 0) (.slice none 0 0) w0 :=
  ⟨World.ownsRow_nil _ _ _ _, World.ownsRow_nil _ _ _ _, fun k hk => by (cases hk), h.fewer (fun k hk => by rcases hk with hk | hk | hk; exact hk; cases hk; cases hk) (.inl h.a0), Keep.refl _ _, h.guard, h.a0, h.tabs.pos⟩
theorem RwW.write (h : RwW w0 A f e gd O1 O2 s v1 v2 w) (hf : FA w' (fun k => A k ∨ v1.ownBlock = some k ∨ v2.ownBlock = some k) f e gd t) (hk : Keep (fun k => A k ∨ v1.ownBlock = some k ∨ v2.ownBlock = some k) w w') : RwW w0 A f e gd O1 O2 t v1 v2 w' :=
  ⟨owns_keep h.o1 hk (fun _ hk => .inr (.inl hk)), owns_keep h.o2 hk (fun _ hk => .inr (.inr hk)), h.ap, hf, h.kp.trans (hk.mono fun _ _ hA => .inl hA), h.g0, h.a0, h.pos⟩
theorem RwW.below (h : RwW w0 A f e gd O1 O2 s v1 v2 w) (hb : Below w.heap.size w w') : RwW w0 A f e gd O1 O2 s v1 v2 w' := h.write (h.fin.below hb) (keep_below hb)
theorem RwW.app1 (h : RwW w0 A f e gd O1 O2 s v1 v2 w) {P : List ByteArray} {v' : Value} (ho : w'.ownsRow w0.heap.size 9 1 v' P.length (sc P)) (hg : w.grownBy w' v1.ownBlock) (hat : v'.ownBlock = v1.ownBlock ∨ v'.ownBlock = some w.heap.size) :
    RwW w0 A f e gd P O2 s v' v2 w' := by
  have hk : Keep (fun k => v1.ownBlock ≠ some k) w w' := ⟨hg.os, hg.tape, hg.output, hg.size, fun k hk hA => hg.block k hk (fun e => hA e.symm)⟩
  have hge : ∀ k, v1.ownBlock = some k → w0.heap.size ≤ k := fun k hk => (h.o1.lt k hk).1
  have hat' : ∀ k, v'.ownBlock = some k → v1.ownBlock = some k ∨ w.heap.size ≤ k := fun k hk => by
    rcases hat with e | e
    · exact .inl (e ▸ hk)
    · rw [e] at hk
      exact .inr (Nat.le_of_eq (Option.some.inj hk))
  refine ⟨ho, owns_keep h.o2 hk (fun k h2 h1 => h.ap k h1 h2), fun k hk h2 => ?_, ?_, h.kp.trans (hk.mono fun k _ hA e => by have := hge k e; have := h.g0 k hA; omega), h.g0, h.a0, h.pos⟩
  · rcases hat' k hk with e | e
    · exact h.ap k e h2
    · have := (h.o2.lt k h2).2; omega
  · refine h.fin.keep (hk.mono ?_) ?_ ?_ (.inl h.a0)
    · rintro k _ (hn | rfl) e
      · exact hn (.inr (.inl e))
      · have := hge 0 e; have := h.pos; omega
    · rintro k (hk | hk | hk)
      · exact .inl (.inl hk)
      · exact (hat' k hk).imp (fun e => .inr (.inl e)) id
      · exact .inl (.inr (.inr hk))
    · rintro k (hk | hk | hk)
      · exact Nat.lt_of_lt_of_le (h.fin.guard k (.inl hk)) hg.size
      · exact (ho.lt k hk).2
      · exact Nat.lt_of_lt_of_le (h.fin.guard k (.inr (.inr hk))) hg.size
theorem RwW.turn (h : RwW w0 A f e gd O1 O2 s v1 v2 w) : RwW w0 A f e gd O2 O1 s v2 v1 w :=
  ⟨h.o2, h.o1, fun k hk h1 => h.ap k h1 hk, h.fin.fewer (fun k hk => by rcases hk with hk | hk | hk; exact .inl hk; exact .inr (.inr hk); exact .inr (.inl hk)) (.inl h.a0), h.kp, h.g0, h.a0, h.pos⟩
end
end Go.Proofs.YtmlkpfkeeifgeaaDoor
