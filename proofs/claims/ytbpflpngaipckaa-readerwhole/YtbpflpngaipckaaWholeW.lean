/-
  The walk of ReaderWhole: it returns true and turns nothing that was there. Conditions: the slices read as frames, each text no longer than the greatest length, and as ints.
-/
import Derived.Test.YtbpflpngaipckaaPiecesW
import Derived.Test.YtbpflpngaipckaaGl
import Derived.Deep.RegionHeld
import Derived.Deep.DrawnRows
import Derived.Deep.CutRange
namespace Go.Proofs.Ytbpflpngaipckaa
open Go.ChangeShapes Go.WideShapes Go.ChangeAt Go.RowKit
attribute [local go_sem ↓] Go.wp_at_zero Go.wp_at_succ

theorem le20 (n : Nat) : (n ≤ 20 ∧ ((20 : Int) < (n : Int)) = False) ∨ (20 : Int) < (n : Int) := by
  by_cases h : n ≤ 20
  · exact .inl ⟨h, eq_false (by omega)⟩
  · exact .inr (by omega)

set_option maxHeartbeats 4000000 in
set_option maxRecDepth 100000 in
theorem whole_any (a : Option Addr) (len cap : Nat) (fs : List Fr) (a' : Option Addr) (len' cap' : Nat) (zs : List Int) (w : World) (h : FramesAt w a len cap fs) (hsz : ∀ f ∈ fs, f.s.size ≤ maxLen) (h' : IntsAt w a' len' cap' zs) :
    Calls Try.prog 7 #[.slice a len cap, .slice a' len' cap'] w fun e w' => e = .returned (.bool true) ∧ Below w.heap.size w w' := by
  have hcap := h.hcap
  have hle := h.hle
  unfold maxLen at hcap
  obtain ⟨i0, hi, hz0, hz1, hz2⟩ := info_parts Try.info48
  have H : Hid (FramesAt w a len cap fs) := h
  have HL : Hid (fs.length = len) := h.hlen
  have HS : Hid (∀ f ∈ fs, f.s.size ≤ maxLen) := hsz
  have H' : Hid (IntsAt w a' len' cap' zs) := h'
  have hcap' := h'.hcap
  have hle' := h'.hle
  unfold maxLen at hcap'
  clear h hsz h'
  go_enter Try.func7, Try.ntmps7
  go_wp2_with fail
  refine (lives_any w).mono ?_
  rintro e w1 ⟨rfl, hb1⟩
  go_wp2
  go_loopw [5, 6] (fun v i wr => ∃ k : Nat, k ≤ len ∧ k ≤ 8 ∧ i = .int .i64 k ∧ wr.ownsRow w.heap.size 48 2 v k (fc (gl fs k)) ∧ Below w.heap.size w wr)
    (fun _ i _ => 8 - (intOf i).toNat)
  case atStart => exact ⟨0, Nat.zero_le _, Nat.zero_le _, rfl, by rw [gl_zero]; exact World.ownsRow_nil _ _ _ _, hb1⟩
  case round =>
    obtain ⟨k, hk, hk8, rfl, hown, hbel⟩ := hrel
    clear hb1
    by_cases hgo : k < len ∧ k < 8
    · obtain ⟨hlt, h8⟩ := hgo
      obtain ⟨b, off, rfl, hb, hc, hd⟩ := (H.out.below hbel).at_ k hlt
      have hkl : k < fs.length := by have := HL.out; omega
      have SN : Hid (gl fs (k + 1) = gl fs k ++ [gd (fs.getD k Fr.zero)]) := gl_snoc fs k hkl
      have hfk : (fs.getD k Fr.zero).s.size ≤ maxLen := by
        have e : fs.getD k Fr.zero = fs[k] := by simp [List.getD, hkl]
        rw [e]
        exact HS.out _ (List.getElem_mem hkl)
      generalize fs.getD k Fr.zero = f at hc hd SN hfk
      have hkn : (k : Int) < (len : Int) := by omega
      go_wp2_with fail
      refine (good_any f.k f.s _ hfk).mono ?_
      rintro e w2 ⟨rfl, hb2⟩
      have hown2 := owns_below hown hb2
      have hbel2 : Below w.heap.size w w2 := hbel.trans (hb2.mono hbel.size)
      have hzz : w.heap.size ≤ w2.heap.size := hbel2.size
      clear hown hbel hb2 hc hd hb hfk
      go_wp2_with (at_builtin; refine wpList_append_own _ rfl _ _ 30 rfl w.heap.size 48 i0 (.agg #[.int .i64 0, .string ⟨#[]⟩]) 2 24 Try.underlying30 hi hz0 hz1 hz2 rfl (by decide) _ k _ rfl (hown2.alloc _) ⟨w2.heap.size, 0, none⟩ 1 1 [.int .i64 (1 + f.k % 8), .string (cut40 f.s)] rfl rfl ?c1 ?c2 ?c3 ?c4 ?c5 ?_)
      case c1 =>
        intro j u hj
        match j, hj with
        | 0, hj => simp at hj; subst hj; simp [Addr.add]
        | 1, hj => simp at hj; subst hj; simp [Addr.add]
        | _ + 2, hj => simp at hj
      case c2 => intro u hu; simp at hu; rcases hu with rfl | rfl <;> rfl
      case c3 => unfold maxLen; omega
      case c4 => omega
      case c5 => simp; omega
      intro v3 w3 hown3 hgrow3 _
      have hbel3 : Below w.heap.size w w3 := (hbel2.alloc hzz _).grown hgrow3 (by simp; omega) (fun j hj => (hown2.lt j hj).1)
      have hown4 : w3.ownsRow w.heap.size 48 2 v3 (k + 1) (fc (gl fs (k + 1))) := by rw [SN.out, fc_append]; exact hown3
      clear hown3 hgrow3 hown2 hbel2
      go_wp2
      go_roundw
      case rel => exact ⟨k + 1, by omega, by omega, by go_num, hown4, hbel3⟩
      case measure => simp [intOf]; omega
    · have fine := gl_fine fs k
      have hGl := gl_length fs k (by have := HL.out; omega)
      generalize gl fs k = G at hown fine hGl
      obtain ⟨a3, c3, rfl, F3, hx3⟩ := owns_frames' hown
      have FI : Hid (∀ f ∈ G, Fine f) := fine
      have GL : Hid (G.length = k) := hGl
      have HX3 : Hid (∀ x, a3 = some x → w.heap.size ≤ x.block ∧ x.block < wr.heap.size) := hx3
      clear hown fine hGl H HL HS hx3
      have BL := hbel.size
      have hmk1 : (mkS (encL G)).size ≤ 1000 := by rw [mkS_size]; exact Nat.le_trans (encL_len G FI.out) (by have := GL.out; omega)
      have hmk : (mkS (encL G)).size ≤ 2000 := by omega
      have F3d : FramesAt wr.drew a3 k c3 G := ⟨F3.hlen, F3.hle, F3.hcap, F3.at_⟩
      rcases (by omega : (len ≤ k) ∨ (k < len ∧ 8 ≤ k)) with hx | hx
      all_goals
        clear hgo
        go_wp2_with fail
        go_cut [7] from 33 to 41 (fun s w5 => ∃ (a5 : Option Addr) (c5 : Nat) (ps : List ByteArray), s = .slice a5 ps.length c5 ∧ joinB ps = encL G ∧ StrsAt w5 a5 ps.length c5 ps ∧ (∀ x, a5 = some x → x.block < w5.heap.size) ∧ FramesAt w5 a3 k c3 G ∧ Below w.heap.size w w5 ∧ wr.heap.size ≤ w5.heap.size)
        case first =>
          rcases le20 len' with h2 | h2
          all_goals
            first
              | (have hI : IntsAt w a' len' cap' zs ∧ len' ≤ 20 := ⟨H'.out, h2.1⟩; obtain ⟨hI, hM⟩ := hI; have h2b := h2.2)
              | (have hI : IntsAt w a' 20 cap' (zs.take 20) ∧ 20 ≤ 20 := ⟨H'.out.take (by omega), Nat.le_refl _⟩; obtain ⟨hI, hM⟩ := hI)
            clear H'
            go_region_held (fun _ => True) (trivial)
              (first
                | (go_at_call 24; refine (cat_any a3 k c3 G _ F3d hk8 FI.out).mono ?_; rintro e w4 ⟨v4, rfl, o4, hb4⟩; have hcv := conv_owned o4; have B4 : Below w.heap.size w w4 := hbel.drew.trans (hb4.mono BL); have hI4 := hI.below B4)
                | (go_at_call 20; refine (split_named _ _ _ _ _ w4 hI4 hM hmk).mono ?_; rintro e w5 ⟨a5, c5, ps, rfl, -, hj, hS5, hx5, hb5⟩))
            all_goals
              rw [mkS_data] at hj
              have F5 := (F3d.below hb4).below hb5
              have B5 : Below w.heap.size w w5 := B4.trans (hb5.mono B4.size)
              have h35 : wr.heap.size ≤ w5.heap.size := Nat.le_trans hb4.size hb5.size
              go_wp2_with fail
              go_meet
              exact ⟨a5, c5, ps, rfl, hj, hS5, fun x e => (hx5 x e).2, F5, B5, h35⟩
        case rest =>
          obtain ⟨a5, c5, ps, rfl, hj, hS5, hx5, F5, B5, h35⟩ := hcut
          have hjl : (joinB ps).length ≤ 1000 := by rw [hj, ← mkS_size]; exact hmk1
          have HFW : Hid (feedB 40 ⟨[], 0⟩ (joinB ps) = (⟨[], 0⟩, G)) := by show feedB 40 ⟨[], 0⟩ (joinB ps) = (⟨[], 0⟩, G); rw [hj]; exact feed_whole (fun f hf => (FI.out f hf).chk (by decide))
          have HFC : Hid (∀ m, (feedB 40 ⟨[], 0⟩ ((joinB ps).take m)).1.e = 0) := by intro m; rw [hj]; exact feed_cut (fun f hf => (FI.out f hf).chk (by decide)) m
          have HX5 : Hid (∀ x, a5 = some x → x.block < wc.heap.size) := hx5
          have HX3' : Hid (∀ x, a3 = some x → x.block < wc.heap.size) := fun x e => Nat.lt_of_lt_of_le (HX3.out x e).2 h35
          clear hj hx5 F3d F3 HX3 hbel BL hmk hmk1 FI hx h35
          go_wp2_with fail
          refine (new_any 40 wc).mono ?_
          rintro e w6 ⟨rfl, hr6, hb6, hz6⟩
          have F6 := F5.below hb6
          have hS6 := hS5.below hb6
          have B6 : Below w.heap.size w w6 := B5.trans (hb6.mono B5.size)
          have hg : w.heap.size ≤ wc.heap.size := B5.size
          have hg6 : wc.heap.size < w6.heap.size := by omega
          clear F5 hS5 B5 hb6 hz6
          generalize wc.heap.size = g at hr6 hg hg6 HX5 HX3'
          have HXp : Hid (∀ x, a5 = some x → some x.block ≠ some g) := fun x e h => by have h1 := HX5.out x e; have h2 := Option.some.inj h; omega
          have HXo : Hid (∀ x, a3 = some x → some x.block ≠ some g) := fun x e h => by have h1 := HX3'.out x e; have h2 := Option.some.inj h; omega
          have H6 : Hid (StrsAt w6 a5 ps.length c5 ps) := hS6
          have HF6 : Hid (FramesAt w6 a3 k c3 G) := F6
          have hc5 := hS6.hcap
          have hl5 := hS6.hle
          unfold maxLen at hc5
          have hw6 : w.heap.size ≤ w6.heap.size := B6.size
          clear hS6 F6 HX5 HX3'
          generalize hn : ps.length = n at hc5 hl5 H6
          go_wp2
          go_loopw [9, 10] (fun v i wq => ∃ (j : Nat) (r : Rd) (l : List Fr), j ≤ n ∧ i = .int .i64 j ∧ Hid (feedB 40 ⟨[], 0⟩ (joinB (ps.take j)) = (r, l)) ∧ RAt wq g 40 r ∧ wq.ownsRow w6.heap.size 48 2 v l.length (fc l) ∧ w6.grownBy wq (some g))
            (fun _ i _ => n - (intOf i).toNat)
          case atStart => exact ⟨0, ⟨[], 0⟩, [], Nat.zero_le _, rfl, feedB_none 40, hr6, World.ownsRow_nil _ _ _ _, World.grownBy.refl _ _⟩
          case round =>
            obtain ⟨j, r, l, hjn, rfl, hcut, hr, hown, hgr⟩ := hrel
            clear hr6
            by_cases hlt : j < n
            · obtain ⟨b, off, rfl, hb, hc⟩ := (H6.out.kept hgr HXp.out).at_ j hlt
              have hkn : (j : Int) < (n : Int) := by omega
              have hsn := feed_snoc hcut.out (by omega)
              have hpl := piece_len (k := j) (by omega) hjl
              have hfl := feed_len hcut.out
              generalize ps.getD j ⟨#[]⟩ = f at hc hsn hpl
              have HSN : Hid (feedB 40 ⟨[], 0⟩ (joinB (ps.take (j + 1))) = ((feedB 40 r f.data.toList).1, l ++ (feedB 40 r f.data.toList).2)) := hsn
              have hpl2 : (joinB (ps.take (j + 1))).length ≤ 1000 := hpl.2
              have hrl : r.h.length + f.size ≤ 2000 := by omega
              clear hsn hcut hpl hfl
              go_wp2_with fail
              refine (feed_named g 40 r f _ hr hrl).mono ?_
              rintro e w7 ⟨v7, r7, l7, rfl, hf7, ho7, hr7, hgr7⟩
              have hsn : feedB 40 ⟨[], 0⟩ (joinB (ps.take (j + 1))) = (r7, l ++ l7) := by have h := HSN.out; rw [hf7] at h; exact h
              have hfl7 := (feed_len hsn).2
              rw [List.length_append] at hfl7
              have he7 : r7.e = 0 := by have h := HFC.out (joinB (ps.take (j + 1))).length; rw [← joinB_prefix, hsn] at h; exact h
              have HSN7 : Hid (feedB 40 ⟨[], 0⟩ (joinB (ps.take (j + 1))) = (r7, l ++ l7)) := hsn
              have hown7 := hown.kept hgr7 (own_ne' hown hg6)
              have hgr67 := hgr.trans hgr7
              have hcnt : l.length + l7.length ≤ 100000 := by omega
              rw [he7]
              clear hsn HSN hf7 hown hr hgr hgr7 hfl7 hpl2 hrl hc he7
              go_wp2_with (at_builtin; refine append_frames_any _ rfl _ _ rfl w6.heap.size _ i0 hi hz0 hz1 hz2 _ _ l.length l7.length l l7 rfl hown7 rfl ho7 hcnt hgr67.size ?_)
              intro v8 w8 ho8 hgr8
              have hr8 := hr7.kept hgr8 (own_ne hown7 hg6)
              have hgr68 := hgr67.andThen hgr8 (fun j hj => .inl (hown7.lt j hj).1)
              rw [← List.length_append] at ho8
              clear hown7 hr7 hgr67 hgr8 ho7
              go_wp2
              go_roundw
              case rel => exact ⟨j + 1, r7, l ++ l7, by omega, by go_num, HSN7, hr8, ho8, hgr68⟩
              case measure => simp [intOf]; omega
            · have hend := hcut.out
              rw [List.take_of_length_le (by omega), HFW.out] at hend
              obtain ⟨rfl, rfl⟩ := Prod.mk.inj hend
              have hF := HF6.out.kept hgr HXo.out
              have hgl := GL.out
              rw [hgl] at hown
              obtain ⟨a7, c7, rfl, hG⟩ := owns_frames hown
              have hrB : RAt _ g 40 ⟨[], 0⟩ := hr
              have BE := B6.grown hgr hw6 (fun j hj => by cases hj; exact hg)
              have hw3 : wantB 40 ⟨[], 0⟩ = 3 := by kernel_rfl
              clear hend hcut HFW HFC HF6 hgr hown H6 HXp HXo B6 hjl hr hgl GL
              go_wp2_with fail
              refine (same_any _ _ _ _ _ _ _ hG hF).mono ?_
              rintro e w9 ⟨rfl, hb9⟩
              have hr9 := hrB.below hb9
              have B9 : Below w.heap.size w w9 := BE.trans (hb9.mono BE.size)
              clear hb9 hrB BE hF hG
              go_wp2_with fail
              refine (left_at g 40 _ w9 hr9).mono ?_
              rintro e _ ⟨rfl, rfl⟩
              go_wp2_with fail
              refine (want_any g 40 _ w9 hr9 (by decide)).mono ?_
              rintro e w10 ⟨rfl, hb10⟩
              rw [hw3]
              go_wp2
              go_ret
              exact ⟨rfl, B9.trans (hb10.mono B9.size)⟩

end Go.Proofs.Ytbpflpngaipckaa
