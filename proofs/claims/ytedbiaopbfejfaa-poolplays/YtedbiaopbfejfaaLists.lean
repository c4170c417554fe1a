/-
  What Making, Busy, All and Idle tell: the ids of those connections, rising, but the idle ones in their row, in new memory; of nil too. Conditions: the pool lies where it is said to lie.
-/
import Derived.Test.YtedbiaopbfejfaaThose
namespace Go.Proofs.Ytedbiaopbfejfaa
open Go.ChangeShapes Go.WideShapes Go.ChangeAt Go.RowKit Go.Maps

/-- The slice reads as the ints zs; it lies at B or behind it. -/
structure LAt (w : World) (B : Nat) (a : Option Addr) (c : Nat) (zs : List Int) : Prop where
  rd : IntsAt w a zs.length c zs
  nil : a = none → zs.length = 0 ∧ c = 0
  low : ∀ x, a = some x → B ≤ x.block

theorem lat_of {w : World} {B : Nat} {v : Value} {zs : List Int} (h : w.ownsRow B 3 1 v zs.length (ic zs)) : ∃ a c, v = .slice a zs.length c ∧ LAt w B a c zs := by
  obtain ⟨a, c, e, h1, h2, h3⟩ := owns_ints h
  exact ⟨a, c, e, h1, h2, fun x hx => (h3 x hx).2⟩
theorem LAt.below {w w' : World} {B : Nat} {a : Option Addr} {c : Nat} {zs : List Int} (h : LAt w B a c zs) (hb : Below w.heap.size w w') : LAt w' B a c zs := ⟨h.rd.below hb, h.nil, h.low⟩
theorem LAt.keep {w w' : World} {A : Nat → Prop} {B : Nat} {a : Option Addr} {c : Nat} {zs : List Int} (h : LAt w B a c zs) (hk : Keep A w w') (hA : ∀ k, B ≤ k → k < w.heap.size → A k) : LAt w' B a c zs := by
  refine ⟨?_, h.nil, h.low⟩
  refine ⟨h.rd.hlen, h.rd.hle, h.rd.hcap, fun j hj => ?_⟩
  obtain ⟨b, off, e, hlt, hc⟩ := h.rd.at_ j hj
  exact ⟨b, off, e, Nat.lt_of_lt_of_le hlt hk.size, hk.cell hc (hA b (h.low ⟨b, off, none⟩ e) hlt)⟩

section
variable {s : St} {cn : Int → Int × Int} {K : Nat}
theorem filt_none {l : List Int} {p : Int → Bool} (h : ∀ x ∈ l, p x = false) : l.filter p = [] := by
  rw [List.filter_eq_nil_iff]
  intro x hx
  simp [h x hx]
theorem filt_all {l : List Int} {p : Int → Bool} (h : ∀ x ∈ l, p x = true) : l.filter p = l := List.filter_eq_self.2 h
theorem filt_m (h : Inv s cn K) : s.ids.filter (fun x => decide ((cn x).1 ∈ [0])) = s.M := by
  unfold St.ids
  rw [List.filter_append, List.filter_append, filt_all (fun x hx => by rw [h.mkg x hx]; rfl), filt_none (fun x hx => by rw [(h.idl x hx).1]; rfl), filt_none (fun x hx => by rw [h.bsy x hx]; rfl)]
  simp
theorem filt_i (h : Inv s cn K) : s.ids.filter (fun x => decide ((cn x).1 ∈ [1])) = s.I := by
  unfold St.ids
  rw [List.filter_append, List.filter_append, filt_none (fun x hx => by rw [h.mkg x hx]; rfl), filt_all (fun x hx => by rw [(h.idl x hx).1]; rfl), filt_none (fun x hx => by rw [h.bsy x hx]; rfl)]
  simp
theorem filt_b (h : Inv s cn K) : s.ids.filter (fun x => decide ((cn x).1 ∈ [2])) = s.B := by
  unfold St.ids
  rw [List.filter_append, List.filter_append, filt_none (fun x hx => by rw [h.mkg x hx]; rfl), filt_none (fun x hx => by rw [(h.idl x hx).1]; rfl), filt_all (fun x hx => by rw [h.bsy x hx]; rfl)]
  simp
theorem filt_a (h : Inv s cn K) : s.ids.filter (fun x => decide ((cn x).1 ∈ [0, 1, 2])) = s.ids := by
  refine filt_all (fun x hx => ?_)
  rcases mem_ids.1 hx with h1 | h1 | h1
  · rw [h.mkg x h1]; rfl
  · rw [(h.idl x h1).1]; rfl
  · rw [h.bsy x h1]; rfl
end

theorem three_at (w : World) (x y z : Int) : IntsAt (w.alloc (.cells #[.int .i64 x, .int .i64 y, .int .i64 z] 3)) (some ⟨w.heap.size, 0, none⟩) 3 3 [x, y, z] := by
  refine ⟨rfl, Nat.le_refl _, by unfold maxLen; omega, fun j hj => ⟨_, _, rfl, by simp, ?_⟩⟩
  match j, hj with
  | 0, _ => simp [go_sem]
  | 1, _ => simp [go_sem]
  | 2, _ => simp [go_sem]

section
variable {w : World} {A : Nat → Prop} {g R K : Nat} {s : St}
/-- Ahead of those: a slice of what is asked for lies in a block of its own. -/
theorem those_w (h : PAt w A g R s K) (o : Obj) (a : Option Addr) (len cap : Nat) (ws : List Int) (hz : IntsAt (w.alloc o) a len cap ws) (zz : List Int) (hzz : ∀ cn, Inv s cn K → srt (s.ids.filter (fun x => decide ((cn x).1 ∈ ws))) = zz) :
    Calls Try.prog 40 #[.pointer (some ⟨g, 0, none⟩), .slice a len cap] (w.alloc o) fun e w' => ∃ a c, e = .returned (.slice a zz.length c) ∧ LAt w' (w.heap.size + 1) a c zz ∧ Below w.heap.size w w' := by
  have hb : Below w.heap.size w (w.alloc o) := (Below.refl _ _).alloc (Nat.le_refl _) _
  have h1 := h.belowS hb
  obtain ⟨gm, gc, sn, rn, D, cn, hg, hc, hm, ht, _⟩ := h1.q.ex
  have hle := h.le
  have hmax := h.max
  refine (those_any (w.alloc o) g gm _ _ D s cn K hg hm ht (by omega) a len cap ws hz zz (hzz cn ht.inv)).mono ?_
  rintro e w' ⟨v, rfl, ho, hb'⟩
  obtain ⟨a, c, rfl, hl⟩ := lat_of ho
  rw [World.size_alloc] at hl
  exact ⟨a, c, rfl, hl, below_trans hb hb'⟩

theorem LAt.base {w : World} {B B' : Nat} {a : Option Addr} {c : Nat} {zs : List Int} (h : LAt w B a c zs) (hB : B' ≤ B) : LAt w B' a c zs := ⟨h.rd, h.nil, fun x hx => Nat.le_trans hB (h.low x hx)⟩

set_option maxRecDepth 100000 in
theorem making_w (h : PAt w A g R s K) (zz : List Int) (hzz : srt s.M = zz) :
    Calls Try.prog 29 #[.pointer (some ⟨g, 0, none⟩)] w fun e w' => ∃ a c, e = .returned (.slice a zz.length c) ∧ LAt w' w.heap.size a c zz ∧ Below w.heap.size w w' := by
  have ht := those_w h (.cells #[.int .i64 0] 3) _ 1 1 [0] (one_at w 0) zz (fun cn hi => by rw [filt_m hi]; exact hzz)
  clear h hzz
  go_enter Try.func29, Try.ntmps29
  go_wp2_with (first | (go_at_call 40; refine ht.mono ?_; rintro e w' ⟨a, c, rfl, hl, hb⟩))
  go_ret
  exact ⟨a, c, rfl, hl.base (Nat.le_succ _), hb⟩
set_option maxRecDepth 100000 in
theorem busy_w (h : PAt w A g R s K) (zz : List Int) (hzz : srt s.B = zz) :
    Calls Try.prog 32 #[.pointer (some ⟨g, 0, none⟩)] w fun e w' => ∃ a c, e = .returned (.slice a zz.length c) ∧ LAt w' w.heap.size a c zz ∧ Below w.heap.size w w' := by
  have ht := those_w h (.cells #[.int .i64 2] 3) _ 1 1 [2] (one_at w 2) zz (fun cn hi => by rw [filt_b hi]; exact hzz)
  clear h hzz
  go_enter Try.func32, Try.ntmps32
  go_wp2_with (first | (go_at_call 40; refine ht.mono ?_; rintro e w' ⟨a, c, rfl, hl, hb⟩))
  go_ret
  exact ⟨a, c, rfl, hl.base (Nat.le_succ _), hb⟩
set_option maxRecDepth 100000 in
theorem all_w (h : PAt w A g R s K) (zz : List Int) (hzz : srt s.ids = zz) :
    Calls Try.prog 33 #[.pointer (some ⟨g, 0, none⟩)] w fun e w' => ∃ a c, e = .returned (.slice a zz.length c) ∧ LAt w' w.heap.size a c zz ∧ Below w.heap.size w w' := by
  have ht := those_w h (.cells #[.int .i64 0, .int .i64 1, .int .i64 2] 3) _ 3 3 [0, 1, 2] (three_at w 0 1 2) zz (fun cn hi => by rw [filt_a hi]; exact hzz)
  clear h hzz
  go_enter Try.func33, Try.ntmps33
  go_wp2_with (first | (go_at_call 40; refine ht.mono ?_; rintro e w' ⟨a, c, rfl, hl, hb⟩))
  go_ret
  exact ⟨a, c, rfl, hl.base (Nat.le_succ _), hb⟩
end

theorem making_nil (w : World) : Calls Try.prog 29 #[.pointer none] w fun e w' => e = .returned (.slice none 0 0) ∧ Below w.heap.size w w' := by
  go_enter Try.func29, Try.ntmps29
  go_wp2_with (first | (go_at_call 40; refine (those_nil _ _ _ _).mono ?_; rintro e w' ⟨rfl, hw'⟩; subst w'))
  go_ret
  exact ⟨rfl, (Below.refl _ _).alloc (Nat.le_refl _) _⟩
theorem busy_nil (w : World) : Calls Try.prog 32 #[.pointer none] w fun e w' => e = .returned (.slice none 0 0) ∧ Below w.heap.size w w' := by
  go_enter Try.func32, Try.ntmps32
  go_wp2_with (first | (go_at_call 40; refine (those_nil _ _ _ _).mono ?_; rintro e w' ⟨rfl, hw'⟩; subst w'))
  go_ret
  exact ⟨rfl, (Below.refl _ _).alloc (Nat.le_refl _) _⟩
theorem all_nil (w : World) : Calls Try.prog 33 #[.pointer none] w fun e w' => e = .returned (.slice none 0 0) ∧ Below w.heap.size w w' := by
  go_enter Try.func33, Try.ntmps33
  go_wp2_with (first | (go_at_call 40; refine (those_nil _ _ _ _).mono ?_; rintro e w' ⟨rfl, hw'⟩; subst w'))
  go_ret
  exact ⟨rfl, (Below.refl _ _).alloc (Nat.le_refl _) _⟩
theorem idle_nil (w : World) : Calls Try.prog 31 #[.pointer none] w fun e w' => e = .returned (.slice none 0 0) ∧ Below w.heap.size w w' := by
  have hs := fun fv w => Try.slices_SortFunc_none (α := Unit) none 0 fv w
  go_enter Try.func31, Try.ntmps31
  go_wp2_with (first
    | (go_at_call 40; refine (those_nil _ _ _ _).mono ?_; rintro e w' ⟨rfl, hw'⟩; subst w')
    | (go_at_call 41; refine (hs _ _).mono ?_; rintro e w' ⟨rfl, hw'⟩; subst w'))
  go_ret
  exact ⟨rfl, ((Below.refl _ _).alloc (Nat.le_refl _) _).alloc (by simp) _⟩

end Go.Proofs.Ytedbiaopbfejfaa
