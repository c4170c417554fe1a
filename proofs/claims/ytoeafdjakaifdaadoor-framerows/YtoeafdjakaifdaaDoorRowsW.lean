/-
  The walk of FrameRows: it returns true and turns nothing that was there. Conditions: the names' table reads as it is laid; the slice reads as a list of frames, each text no longer than the greatest length.
-/
import Derived.Test.YtoeafdjakaifdaaDoorLives
import Derived.Test.YtoeafdjakaifdaaDoorCat
import Derived.Test.YtoeafdjakaifdaaDoorCuts
import Derived.Test.YtoeafdjakaifdaaDoorSame
namespace Go.Proofs.YtoeafdjakaifdaaDoor
open Go.ChangeShapes Go.WideShapes Go.ChangeAt Go.RowKit

/-- A frame that may be, made of any. -/
def gd (f : Fr) : Fr := ⟨1 + f.k % 8, cut40 f.s⟩
theorem gd_fine (f : Fr) : Fine (gd f) := ⟨by show 1 ≤ 1 + f.k % 8; omega, by show 1 + f.k % 8 ≤ 8; omega, cut40_size f.s⟩

/-- The first k, each made one that may be. -/
def gl (fs : List Fr) (k : Nat) : List Fr := (fs.take k).map gd
theorem gl_zero (fs : List Fr) : gl fs 0 = [] := by simp [gl]
theorem gl_snoc (fs : List Fr) (k : Nat) (h : k < fs.length) : gl fs (k + 1) = gl fs k ++ [gd (fs.getD k Fr.zero)] := by
  unfold gl
  rw [List.take_succ_eq_append_getElem h, List.map_append]
  simp [List.getD, h]
theorem gl_fine (fs : List Fr) (k : Nat) : ∀ f ∈ gl fs k, Fine f := by
  intro f hf
  obtain ⟨g, _, rfl⟩ := List.mem_map.1 hf
  exact gd_fine g
theorem gl_length (fs : List Fr) (k : Nat) (h : k ≤ fs.length) : (gl fs k).length = k := by
  unfold gl
  rw [List.length_map, List.length_take]
  omega

theorem FramesAt.dropNe {w : World} {a : Option Addr} {len cap : Nat} {bs : List Fr} (h : FramesAt w a len cap bs) {n : Nat} (hn : n ≤ len) (hc : ¬ cap = n) : FramesAt w (Option.map (fun x => x.add (n * 2)) a) (len - n) (cap - n) (bs.drop n) := by
  have := h.drop hn
  rw [if_neg hc] at this
  exact this

theorem FramesAt.nil (w : World) (a : Option Addr) (cap : Nat) (h : cap ≤ maxLen) : FramesAt w a 0 cap [] := ⟨rfl, Nat.zero_le _, h, fun _ hj => absurd hj (Nat.not_lt_zero _)⟩

theorem at_k (x : Int) (L : Nat) (h : L ≤ 1000) : ∃ K : Nat, K ≤ L ∧ wrap64 ((IntKind.u64.wrap x).tmod ((L : Int) + 1)) = K := by
  have h0 : 0 ≤ IntKind.u64.wrap x := by rw [IntKind.wrap_u64]; omega
  have h1 := Int.emod_nonneg (IntKind.u64.wrap x) (show ((L : Int) + 1) ≠ 0 by omega)
  have h2 := Int.emod_lt_of_pos (IntKind.u64.wrap x) (show (0 : Int) < (L : Int) + 1 by omega)
  refine ⟨((IntKind.u64.wrap x) % ((L : Int) + 1)).toNat, by omega, ?_⟩
  rw [Int.tmod_eq_emod_of_nonneg h0]
  unfold wrap64
  omega

set_option maxHeartbeats 1000000 in
set_option maxRecDepth 100000 in
theorem rows_any (a : Option Addr) (len cap : Nat) (fs : List Fr) (at_ : Int) (w : World) (hn : Names w) (h : FramesAt w a len cap fs) (hsz : ∀ f ∈ fs, f.s.size ≤ maxLen) :
    Calls Tryd.prog 6 #[.slice a len cap, .int .i64 at_] w fun e w' => e = .returned (.bool true) ∧ Below w.heap.size w w' := by
  have hcap := h.hcap
  have hle := h.hle
  unfold maxLen at hcap
  obtain ⟨i0, hi, hz0, hz1, hz2⟩ := info_parts Tryd.info23
  have H : Hid (FramesAt w a len cap fs) := h
  have HL : Hid (fs.length = len) := h.hlen
  have HS : Hid (∀ f ∈ fs, f.s.size ≤ maxLen) := hsz
  clear h hsz
  go_enter Tryd.func6, Tryd.ntmps6
  go_wp2_with fail
  refine (lives_any w hn).mono ?_
  rintro e w1 ⟨rfl, hb1⟩
  go_wp2
  go_loopw [5, 6] (fun v i wr => ∃ k : Nat, k ≤ len ∧ k ≤ 8 ∧ i = .int .i64 k ∧ wr.ownsRow w.heap.size 23 2 v k (fc (gl fs k)) ∧ Below w.heap.size w wr)
    (fun _ i _ => 8 - (intOf i).toNat)
  case atStart => exact ⟨0, Nat.zero_le _, Nat.zero_le _, rfl, by rw [gl_zero]; exact World.ownsRow_nil _ _ _ _, hb1⟩
  case round =>
    obtain ⟨k, hk, hk8, rfl, hown, hbel⟩ := hrel
    clear hb1
    by_cases hgo : k < len ∧ k < 8
    · obtain ⟨hlt, h8⟩ := hgo
      · obtain ⟨b, off, rfl, hb, hc, hd⟩ := (H.out.below hbel).at_ k hlt
        have hkl : k < fs.length := by have := HL.out; omega
        have SN : Hid (gl fs (k + 1) = gl fs k ++ [gd (fs.getD k Fr.zero)]) := gl_snoc fs k hkl
        have hfk : (fs.getD k Fr.zero).s.size ≤ maxLen := by
          have e : fs.getD k Fr.zero = fs[k] := by simp [List.getD, hkl]
          rw [e]
          exact HS.out _ (List.getElem_mem hkl)
        generalize fs.getD k Fr.zero = f at hc hd SN hfk
        have hkn : (k : Int) < (len : Int) := by omega
        go_wp2_with fail
        refine (good_any f.k f.s _ hfk).mono ?_
        rintro e w2 ⟨rfl, hb2⟩
        have hown2 := owns_below hown hb2
        have hbel2 : Below w.heap.size w w2 := hbel.trans (hb2.mono hbel.size)
        have hzz : w.heap.size ≤ w2.heap.size := hbel2.size
        clear hown hbel hb2 hc hd hb hfk
        go_wp2_with (at_builtin; refine wpList_append_own _ rfl _ _ 39 rfl w.heap.size 23 i0 (.agg #[.int .i64 0, .string ⟨#[]⟩]) 2 24 Tryd.underlying39 hi hz0 hz1 hz2 rfl (by decide) _ k _ rfl (hown2.alloc _) ⟨w2.heap.size, 0, none⟩ 1 1 [.int .i64 (1 + f.k % 8), .string (cut40 f.s)] rfl rfl ?c1 ?c2 ?c3 ?c4 ?c5 ?_)
        case c1 =>
          intro j u hj
          match j, hj with
          | 0, hj => simp at hj; subst hj; simp [Addr.add]
          | 1, hj => simp at hj; subst hj; simp [Addr.add]
          | _ + 2, hj => simp at hj
        case c2 => intro u hu; simp at hu; rcases hu with rfl | rfl <;> rfl
        case c3 => unfold maxLen; omega
        case c4 => omega
        case c5 => simp; omega
        intro v3 w3 hown3 hgrow3 _
        have hbel3 : Below w.heap.size w w3 := (hbel2.alloc hzz _).grown hgrow3 (by simp; omega) (fun j hj => (hown2.lt j hj).1)
        have hown4 : w3.ownsRow w.heap.size 23 2 v3 (k + 1) (fc (gl fs (k + 1))) := by rw [SN.out, fc_append]; exact hown3
        clear hown3 hgrow3 hown2 hbel2
        go_wp2
        go_roundw
        case rel => exact ⟨k + 1, by omega, by omega, by go_num, hown4, hbel3⟩
        case measure => simp [intOf]; omega
    · have fine := gl_fine fs k
      have hGl := gl_length fs k (by have := HL.out; omega)
      generalize gl fs k = G at hown fine hGl
      obtain ⟨a3, c3, rfl, F3⟩ := owns_frames hown
      have FI : Hid (∀ f ∈ G, Fine f) := fine
      have GL : Hid (G.length = k) := hGl
      clear hown fine hGl H HL HS
      rcases (by omega : (len ≤ k) ∨ (k < len ∧ 8 ≤ k)) with hx | ⟨hx, hy⟩
      all_goals
        clear hgo
        go_wp2_with fail
        refine (cat_any a3 k c3 G wr F3 hk8 FI.out).mono ?_
        rintro e w4 ⟨v4, rfl, o4, hb4⟩
        have F4 := F3.below hb4
        have bel4 : Below w.heap.size w w4 := hbel.trans (hb4.mono hbel.size)
        have hL : (encL G).length ≤ 1000 := Nat.le_trans (encL_len G FI.out) (by have := GL.out; omega)
        have W0 := whole_all 40 G (fun f hf => (FI.out f hf).chk (by decide))
        obtain ⟨bs, hbs⟩ : ∃ bs, encL G = bs := ⟨_, rfl⟩
        obtain ⟨L, hL0⟩ : ∃ L, bs.length = L := ⟨_, rfl⟩
        rw [hbs, hL0] at o4 hL W0
        obtain ⟨a4, c4, rfl, B4⟩ := owns_bytes o4
        obtain ⟨K, hK, hat⟩ := at_k at_ L hL
        obtain ⟨j, hj, WJ, hM⟩ := cut_all 40 G K (fun f hf => (FI.out f hf).chk (by decide))
        have hlenJ := len_encL G j
        have hdrop := drop_encL G j
        have WR := whole_all 40 (G.drop j) (fun f hf => (FI.out f (List.mem_of_mem_drop hf)).chk (by decide))
        have hge := encL_ge (G.drop j)
        obtain ⟨M, hM0⟩ : ∃ M, (encL (G.take j)).length = M := ⟨_, rfl⟩
        obtain ⟨bt, hbt⟩ : ∃ bt, encL (G.drop j) = bt := ⟨_, rfl⟩
        obtain ⟨R, hR0⟩ : ∃ R, bt.length = R := ⟨_, rfl⟩
        rw [hM0, hbt, hR0, hbs, hL0] at hlenJ
        rw [hbs, hM0, hbt] at hdrop
        rw [hbs, hM0] at WJ
        rw [hM0] at hM
        rw [hbt, hR0] at WR hge
        have hj' : j ≤ k := by rw [← GL.out]; exact hj
        have hgl : G.length = k := GL.out
        rw [List.length_drop, hgl] at hge
        have D1 : Hid (bs.drop M = bt) := hdrop
        have D2 : Hid (bt.length = R) := hR0
        have HW0 : Hid (allB bs 40 = (G, L, 0)) := W0
        have HWJ : Hid (allB (bs.take K) 40 = (G.take j, M, 0)) := WJ
        have HWR : Hid (allB bt 40 = (G.drop j, R, 0)) := WR
        have LT : Hid ((G.take j).length = j) := by show (G.take j).length = j; rw [List.length_take, hgl]; omega
        have LD : Hid ((G.drop j).length = k - j) := by show (G.drop j).length = k - j; rw [List.length_drop, hgl]
        clear W0 WJ WR hbs hL0 hdrop hM0 hR0 hj hb4 hbel F3 o4 hgl hbt
        have hne : ((M : Int) + (R : Int) != (L : Int)) = false := by simp; omega
        have hM1 : M ≤ L := by omega
        have hR1 : R ≤ L := by omega
        have LMR : Hid (M + R = L) := hlenJ
        clear hlenJ
        go_wp2_with fail
        refine (all_any a4 _ c4 bs 40 w4 B4 (by omega)).mono ?_
        rintro e w5 ⟨v5, rfl, o5, hb5⟩
        rw [HW0.out] at o5 ⊢
        have o5' : w5.ownsRow w4.heap.size 23 2 v5 k (fc G) := by have e := GL.out; simp only [e] at o5; exact o5
        have F5 := F4.below hb5
        have B5 := B4.below hb5
        have bel5 : Below w.heap.size w w5 := bel4.trans (hb5.mono bel4.size)
        obtain ⟨a5, c5, rfl, P5⟩ := owns_frames o5'
        clear F4 B4 bel4 hb5 o5 o5'
        have BK := B5.take (n := K) hK
        have hcB := B5.hle
        have hcm := B5.hcap
        go_wp2_with fail
        refine (all_any a4 K c4 (bs.take K) 40 w5 BK (by omega)).mono ?_
        rintro e w6 ⟨v6, rfl, o6, hb6⟩
        rw [HWJ.out] at o6 ⊢
        have o6' : w6.ownsRow w5.heap.size 23 2 v6 j (fc (G.take j)) := by have e := LT.out; simp only [e] at o6; exact o6
        have F6 := F5.below hb6
        have B6 := B5.below hb6
        have P6 := P5.below hb6
        have bel6 : Below w.heap.size w w6 := bel5.trans (hb6.mono bel5.size)
        obtain ⟨a6, c6, rfl, Q6⟩ := owns_frames o6'
        clear F5 B5 P5 BK bel5 hb6 o6 o6'
        have hMc : M ≤ c4 := by omega
        by_cases hcM : c4 = M
        · subst hcM
          obtain rfl : L = c4 := by omega
          have hR : R = 0 := by have := LMR.out; omega
          subst hR
          obtain rfl : bt = [] := List.eq_nil_of_length_eq_zero D2.out
          have B7 : BytesAt w6 a4 0 0 [] := BytesAt.nil _ _ _ (Nat.zero_le _)
          go_wp2_with fail
          refine (all_any _ _ _ [] 40 w6 B7 (by omega)).mono ?_
          rintro e w7 ⟨v7, rfl, o7, hb7⟩
          rw [HWR.out] at o7 ⊢
          have o7' : w7.ownsRow w6.heap.size 23 2 v7 (k - j) (fc (G.drop j)) := by have e := LD.out; simp only [e] at o7; exact o7
          have F7 := F6.below hb7
          have P7 := P6.below hb7
          have Q7 := Q6.below hb7
          have bel7 : Below w.heap.size w w7 := bel6.trans (hb7.mono bel6.size)
          obtain ⟨a7, c7, rfl, R7⟩ := owns_frames o7'
          have hk3 := F7.hle
          have hk3m := F7.hcap
          clear F6 P6 Q6 B6 B7 bel6 hb7 o7 o7'
          go_wp2_with fail
          refine (same_any a5 a3 k c5 c3 G w7 P7 F7).mono ?_
          rintro e w8 ⟨rfl, hb8⟩
          have F8 := F7.below hb8
          have Q8 := Q7.below hb8
          have R8 := R7.below hb8
          have bel8 : Below w.heap.size w w8 := bel7.trans (hb8.mono bel7.size)
          clear F7 P7 Q7 R7 bel7 hb8
          have F8t := F8.take (n := j) hj'
          go_wp2_with fail
          refine (same_any a6 a3 j c6 c3 (G.take j) w8 Q8 F8t).mono ?_
          rintro e w9 ⟨rfl, hb9⟩
          have F9 := F8.below hb9
          have R9 := R8.below hb9
          have bel9 : Below w.heap.size w w9 := bel8.trans (hb9.mono bel8.size)
          clear F8 F8t Q8 R8 bel8 hb9
          by_cases hc3 : c3 = j
          · obtain rfl : k = j := by omega
            subst hc3
            go_wp2_with fail
            refine (same_any a7 a3 0 c7 0 [] w9 (FramesAt.nil _ _ _ R9.hcap) (FramesAt.nil _ _ _ (Nat.zero_le _))).mono ?_
            rintro e w10 ⟨rfl, hb10⟩
            go_wp2
            go_ret
            exact ⟨rfl, bel9.trans (hb10.mono bel9.size)⟩
          · have F9d := F9.dropNe (n := j) hj' hc3
            go_wp2_with fail
            refine (same_any _ _ _ _ _ (G.drop j) w9 R9 F9d).mono ?_
            rintro e w10 ⟨rfl, hb10⟩
            go_wp2
            go_ret
            exact ⟨rfl, bel9.trans (hb10.mono bel9.size)⟩
        · have B7 : BytesAt w6 (Option.map (fun x => x.add M) a4) (L - M) (c4 - M) bt := by
            have := B6.dropNe (n := M) hM1 hcM
            rw [D1.out] at this
            exact this
          go_wp2_with fail
          refine (all_any _ _ _ bt 40 w6 B7 (by omega)).mono ?_
          rintro e w7 ⟨v7, rfl, o7, hb7⟩
          rw [HWR.out] at o7 ⊢
          have o7' : w7.ownsRow w6.heap.size 23 2 v7 (k - j) (fc (G.drop j)) := by have e := LD.out; simp only [e] at o7; exact o7
          have F7 := F6.below hb7
          have P7 := P6.below hb7
          have Q7 := Q6.below hb7
          have bel7 : Below w.heap.size w w7 := bel6.trans (hb7.mono bel6.size)
          obtain ⟨a7, c7, rfl, R7⟩ := owns_frames o7'
          have hk3 := F7.hle
          have hk3m := F7.hcap
          clear F6 P6 Q6 B6 B7 bel6 hb7 o7 o7'
          go_wp2_with fail
          refine (same_any a5 a3 k c5 c3 G w7 P7 F7).mono ?_
          rintro e w8 ⟨rfl, hb8⟩
          have F8 := F7.below hb8
          have Q8 := Q7.below hb8
          have R8 := R7.below hb8
          have bel8 : Below w.heap.size w w8 := bel7.trans (hb8.mono bel7.size)
          clear F7 P7 Q7 R7 bel7 hb8
          have F8t := F8.take (n := j) hj'
          go_wp2_with fail
          refine (same_any a6 a3 j c6 c3 (G.take j) w8 Q8 F8t).mono ?_
          rintro e w9 ⟨rfl, hb9⟩
          have F9 := F8.below hb9
          have R9 := R8.below hb9
          have bel9 : Below w.heap.size w w9 := bel8.trans (hb9.mono bel8.size)
          clear F8 F8t Q8 R8 bel8 hb9
          by_cases hc3 : c3 = j
          · obtain rfl : k = j := by omega
            subst hc3
            go_wp2_with fail
            refine (same_any a7 a3 0 c7 0 [] w9 (FramesAt.nil _ _ _ R9.hcap) (FramesAt.nil _ _ _ (Nat.zero_le _))).mono ?_
            rintro e w10 ⟨rfl, hb10⟩
            go_wp2
            go_ret
            exact ⟨rfl, bel9.trans (hb10.mono bel9.size)⟩
          · have F9d := F9.dropNe (n := j) hj' hc3
            go_wp2_with fail
            refine (same_any _ _ _ _ _ (G.drop j) w9 R9 F9d).mono ?_
            rintro e w10 ⟨rfl, hb10⟩
            go_wp2
            go_ret
            exact ⟨rfl, bel9.trans (hb10.mono bel9.size)⟩

end Go.Proofs.YtoeafdjakaifdaaDoor
