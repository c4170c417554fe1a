/-
  What Take does, as a contract, of nil too; the document's example; a pool that isn't there. Conditions: the pool lies where it is said to lie.
-/
import Derived.Test.YtedbiaopbfejfaaIdle
namespace Go.Proofs.Ytedbiaopbfejfaa
open Go.ChangeShapes Go.WideShapes Go.ChangeAt Go.RowKit Go.Maps

/-- The one above all others; who is there behind a Take. -/
def tkI (s : St) : Int := s.I.getD (s.I.length - 1) 0
def takeS (s : St) : St := if s.I = [] then s else tk s (tkI s)
theorem tkI_mem {s : St} (h : s.I ≠ []) : tkI s ∈ s.I := by
  have h1 : 0 < s.I.length := List.length_pos_iff.2 h
  unfold tkI
  simp [List.getD, show s.I.length - 1 < s.I.length by omega]
theorem tkI_none {s : St} (h : s.I = []) : tkI s = 0 := by unfold tkI; rw [h]; rfl

theorem take_nil (w : World) : Calls Try.prog 18 #[.pointer none] w fun e w' => e = .returned (.tuple #[.int .i64 0, .bool false]) ∧ Below w.heap.size w w' := by
  go_enter Try.func18, Try.ntmps18
  go_wp2_with (first | (go_at_call 31; refine (idle_nil _).mono ?_; rintro e w' ⟨rfl, hb⟩))
  go_ret2
  exact ⟨rfl, hb⟩

section
variable {w : World} {A : Nat → Prop} {g R K : Nat} {s : St}
set_option maxHeartbeats 1000000 in
set_option maxRecDepth 100000 in
theorem take_w (h : PAt w A g R s K) :
    Calls Try.prog 18 #[.pointer (some ⟨g, 0, none⟩)] w fun e w' => e = .returned (.tuple #[.int .i64 (tkI s), .bool (decide (0 < s.I.length))]) ∧ PAt w' A g R (takeS s) K ∧ Keep A w w' := by
  have HH : Hid (∀ w2, Below w.heap.size w w2 → PAt w2 A g R s K ∧ Keep A w w2) := fun w2 hb => ⟨h.belowS hb, keep_below hb⟩
  unfold takeS
  by_cases h0 : s.I = []
  · have hi := idle_w h [] h0
    rw [if_pos h0, tkI_none h0, decide_eq_false (by rw [h0]; exact Nat.lt_irrefl _)]
    clear h h0
    go_enter Try.func18, Try.ntmps18
    go_wp2_with (first | (go_at_call 31; refine hi.mono ?_; rintro e w2 ⟨a, c, rfl, hl, hb2⟩))
    go_ret2
    exact ⟨rfl, HH.out _ hb2⟩
  · obtain ⟨zz, hzz⟩ : ∃ zz, s.I = zz := ⟨_, rfl⟩
    have hi := idle_w h zz hzz
    have hpos : 0 < s.I.length := List.length_pos_iff.2 h0
    have hmem := tkI_mem h0
    rw [if_neg h0, decide_eq_true hpos]
    have hx : Wf (tkI s) := h.q.inv.choose_spec.wf _ (mem_ids.2 (.inr (.inl hmem)))
    have hle := h.le
    have hmax := h.max
    have hl8 : s.ids.length ≤ 8 := by omega
    have hz8 : zz.length ≤ 8 := by
      have : s.I.length ≤ s.ids.length := by simp [St.ids]; omega
      rw [← hzz]; omega
    have htk : zz.getD (zz.length - 1) 0 = tkI s := by unfold tkI; rw [hzz]
    obtain ⟨n, hn⟩ : ∃ n, zz.length = n + 1 := ⟨zz.length - 1, by rw [hzz] at hpos; omega⟩
    rw [hn] at htk hi hz8
    have htk2 : zz.getD n 0 = tkI s := htk
    have HP : Hid (∀ w2 : World, PAt w2 A g R s K → ∃ gm gc, ∃ D : DataW Unit, w2.heap[g]? = some (.cells #[.map (some gm), .chan (some gc)] 59 (0, 0)) ∧ w2.ownsMap Try.prog 3 connElem gm s.ids.length D ∧
        ∀ w3, w3.ownsMap Try.prog 3 connElem gm (s.ids.length + 1) (D.put (.int .i64 (tkI s)) (cd (2, 0))) → w2.grownBy w3 (some gm) → PAt w3 A g R (tk s (tkI s)) K ∧ Keep A w2 w3) := by
      intro w2 h2
      obtain ⟨gm, gc, sn, rn, D, cn, hb, hc, hm, ht, hA1, hA2⟩ := h2.q.ex
      refine ⟨gm, gc, D, hb, hm, fun w3 ho hg => ?_⟩
      obtain ⟨q1, q2⟩ := ids_taken ht.inv hmem
      have hp := h2.q.put hb hc hm ht hA1 hA2 q2 (by rw [if_pos (mem_ids.2 (.inr (.inl hmem)))]; exact q1) (ht.inv.taken hmem) ho hg
      refine ⟨⟨?_, by omega, hmax⟩, hp.2⟩
      rw [q1]
      exact hp.1
    have hkey := keyOf3 hx
    generalize tkI s = x at *
    generalize s.ids.length = N at *
    clear h h0 hmem hx hpos htk hle hzz
    go_enter Try.func18, Try.ntmps18
    go_wp2_with (first
      | (go_at_call 31; refine hi.mono ?_; rintro e w2 ⟨a, c, rfl, hl, hb2⟩; have hh := HH.out w2 hb2; obtain ⟨gm, gc, D, hb, hm, hput⟩ := HP.out w2 hh.1; obtain ⟨c0, c1, hlt⟩ := blk2 hb; have q1 := hl.rd.hle; have q2 := hl.rd.hcap; unfold maxLen at q2; rw [hn] at q1; obtain ⟨b, off, rfl, hbl, hcell⟩ := hl.rd.at_ n (by omega); rw [htk2] at hcell; have HPUT := Hid.mk' hput)
      | (at_mapUpdate; refine wpList_mapUpdate_own _ rfl _ _ _ 56 rfl 3 63 keyed3 Try.underlying56 connElem gm _ D rfl hm (by unfold maxLen; omega) _ _ _ rfl rfl hkey (cd (2, 0)) [] rfl ?_; intro w4 hown4 hg4))
    go_ret2
    have hp := HPUT.out w4 hown4 hg4
    exact ⟨rfl, hp.1, hh.2.trans hp.2⟩
end

theorem small_wf {n : Int} (h0 : 0 ≤ n) (h1 : n ≤ 1000) : Wf n := WalkArith.wf_i64 (by omega)

theorem lives_any (w : World) : Calls Try.prog 8 #[] w fun e w' => e = .returned (.bool true) ∧ Below w.heap.size w w' := by
  have hn := new_any 3 w
  have H1 : Wf 1 := small_wf (by omega) (by omega)
  have H2 : Wf 2 := small_wf (by omega) (by omega)
  go_enter Try.func8, Try.ntmps8
  go_wp2_with (first
    | (go_at_call 9; refine hn.mono ?_; rintro e w1 ⟨rfl, hq1, hb1⟩; have hp1 := make_w hq1 H1)
    | (go_at_call 14; refine hp1.mono ?_; rintro e w2 ⟨rfl, hq2, hk2⟩; clear hp1; have hp2 := make_w hq2 H2)
    | (go_at_call 14; refine hp2.mono ?_; rintro e w3 ⟨rfl, hq3, hk3⟩; clear hp2; have hp3 := ready_w hq3 (by omega) H1)
    | (go_at_call 16; refine hp3.mono ?_; rintro e w4 ⟨rfl, hq4, hk4⟩; clear hp3; have hp4 := ready_w hq4 (by omega) H2)
    | (go_at_call 16; refine hp4.mono ?_; rintro e w5 ⟨rfl, hq5, hk5⟩; clear hp4; have hp5 := take_w hq5)
    | (go_at_call 18; refine hp5.mono ?_; rintro e w6 ⟨rfl, hq6, hk6⟩; clear hp5; have hp6 := take_w hq6)
    | (go_at_call 18; refine hp6.mono ?_; rintro e w7 ⟨rfl, hq7, hk7⟩; clear hp6; have hp7 := len_w hq7; have hp8 := room_w hq7 _ rfl)
    | (go_at_call 23; refine hp7.mono ?_; rintro e w' ⟨rfl, hw'⟩; subst w')
    | (go_at_call 25; refine hp8.mono ?_; rintro e w' ⟨rfl, hw'⟩; subst w'))
  go_ret
  have e1 : (((roomN 3 - (takeS (takeS (readyS (readyS (makeS (roomN 3) (makeS (roomN 3) St.none 1) 2) 1) 2))).ids.length : Nat) : Int) == 1) = true := by decide
  exact ⟨ret_bool e1, hb1.trans (Keep.below (((((hk2.trans hk3).trans hk4).trans hk5).trans hk6).trans hk7) hb1.size (fun k hk => hk))⟩

set_option maxRecDepth 100000 in
theorem nil_any (x : Int) (w : World) : Calls Try.prog 6 #[.int .i64 x] w fun e w' => e = .returned (.bool true) ∧ Below w.heap.size w w' := by
  go_enter Try.func6, Try.ntmps6
  go_wp2_with (first
    | (go_at_call 8; refine (lives_any w).mono ?_; rintro e w1 ⟨rfl, hb1⟩)
    | (go_at_call 18; refine (take_nil _).mono ?_; rintro e w2 ⟨rfl, hb2⟩)
    | (go_at_call 14; refine (make_nil _ _).mono ?_; rintro e w' ⟨rfl, hw'⟩; subst w')
    | (go_at_call 16; refine (ready_nil _ _).mono ?_; rintro e w' ⟨rfl, hw'⟩; subst w')
    | (go_at_call 20; refine (give_nil _ _).mono ?_; rintro e w' ⟨rfl, hw'⟩; subst w')
    | (go_at_call 22; refine (drop_nil _ _).mono ?_; rintro e w' ⟨rfl, hw'⟩; subst w')
    | (go_at_call 26; refine (is_nil _ _).mono ?_; rintro e w' ⟨rfl, hw'⟩; subst w')
    | (go_at_call 29; refine (making_nil _).mono ?_; rintro e w3 ⟨rfl, hb3⟩)
    | (go_at_call 31; refine (idle_nil _).mono ?_; rintro e w4 ⟨rfl, hb4⟩)
    | (go_at_call 32; refine (busy_nil _).mono ?_; rintro e w5 ⟨rfl, hb5⟩)
    | (go_at_call 33; refine (all_nil _).mono ?_; rintro e w6 ⟨rfl, hb6⟩)
    | (go_at_call 23; refine (len_nil _).mono ?_; rintro e w' ⟨rfl, hw'⟩; subst w')
    | (go_at_call 25; refine (room_nil _).mono ?_; rintro e w' ⟨rfl, hw'⟩; subst w'))
  go_ret
  exact ⟨rfl, below_trans (below_trans (below_trans (below_trans (below_trans hb1 hb2) hb3) hb4) hb5) hb6⟩

end Go.Proofs.Ytedbiaopbfejfaa
