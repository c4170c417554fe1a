/-
  The walk of ReaderAfter: it returns true and turns nothing that was there. Conditions: the slices read as frames and as texts, each text no longer than the greatest length.
-/
import Derived.Test.YtbpflpngaipckaaPiecesW
import Derived.Test.YtbpflpngaipckaaBoundsW
import Derived.Test.YtbpflpngaipckaaGl
namespace Go.Proofs.Ytbpflpngaipckaa
open Go.ChangeShapes Go.WideShapes Go.ChangeAt Go.RowKit

theorem feed_err_at (g : Nat) (c : Int) (r : Rd) (s : ByteArray) (w : World) (h : RAt w g c r) (he : r.e ≠ 0) :
    Calls Try.prog 13 #[.pointer (some ⟨g, 0, none⟩), .string s] w fun e w' => e = .returned (.tuple #[.slice none 0 0, .int .i64 r.e]) ∧ w = w' := (feed_err g c r s w h he).mono fun _ _ h => ⟨h.1, h.2.symm⟩
theorem want_err_at (g : Nat) (c : Int) (r : Rd) (w : World) (h : RAt w g c r) (he : r.e ≠ 0) :
    Calls Try.prog 18 #[.pointer (some ⟨g, 0, none⟩)] w fun e w' => e = .returned (.int .i64 0) ∧ w = w' := (want_err g c r w h he).mono fun _ _ h => ⟨h.1, h.2.symm⟩

theorem bad_head (l : List UInt8) : mkS l ++ ⟨#[9, 0, 0]⟩ = mkS (l ++ [9, 0, 0]) := mkS_append l _

set_option maxHeartbeats 4000000 in
set_option maxRecDepth 100000 in
theorem after_any (a : Option Addr) (len cap : Nat) (fs : List Fr) (a' : Option Addr) (len' cap' : Nat) (ss : List ByteArray) (w : World) (h : FramesAt w a len cap fs) (hsz : ∀ f ∈ fs, f.s.size ≤ maxLen) (h' : StrsAt w a' len' cap' ss) (hsz' : ∀ s ∈ ss, s.size ≤ maxLen) :
    Calls Try.prog 9 #[.slice a len cap, .slice a' len' cap'] w fun e w' => e = .returned (.bool true) ∧ Below w.heap.size w w' := by
  have hcap := h.hcap
  have hle := h.hle
  unfold maxLen at hcap
  obtain ⟨i0, hi, hz0, hz1, hz2⟩ := info_parts Try.info48
  have H : Hid (FramesAt w a len cap fs) := h
  have HL : Hid (fs.length = len) := h.hlen
  have HS : Hid (∀ f ∈ fs, f.s.size ≤ maxLen) := hsz
  have H' : Hid (StrsAt w a' len' cap' ss) := h'
  have HS' : Hid (∀ s ∈ ss, s.size ≤ maxLen) := hsz'
  clear h hsz h' hsz'
  go_enter Try.func9, Try.ntmps9
  go_wp2_with fail
  refine (lives_any w).mono ?_
  rintro e w1 ⟨rfl, hb1⟩
  go_wp2
  go_loopw [5, 6] (fun v i wr => ∃ k : Nat, k ≤ len ∧ k ≤ 6 ∧ i = .int .i64 k ∧ wr.ownsRow w.heap.size 48 2 v k (fc (gl fs k)) ∧ Below w.heap.size w wr)
    (fun _ i _ => 6 - (intOf i).toNat)
  case atStart => exact ⟨0, Nat.zero_le _, Nat.zero_le _, rfl, by rw [gl_zero]; exact World.ownsRow_nil _ _ _ _, hb1⟩
  case round =>
    obtain ⟨k, hk, hk8, rfl, hown, hbel⟩ := hrel
    clear hb1
    by_cases hgo : k < len ∧ k < 6
    · obtain ⟨hlt, h8⟩ := hgo
      obtain ⟨b, off, rfl, hb, hc, hd⟩ := (H.out.below hbel).at_ k hlt
      have hkl : k < fs.length := by have := HL.out; omega
      have SN : Hid (gl fs (k + 1) = gl fs k ++ [gd (fs.getD k Fr.zero)]) := gl_snoc fs k hkl
      have hfk : (fs.getD k Fr.zero).s.size ≤ maxLen := by
        have e : fs.getD k Fr.zero = fs[k] := by simp [List.getD, hkl]
        rw [e]
        exact HS.out _ (List.getElem_mem hkl)
      generalize fs.getD k Fr.zero = f at hc hd SN hfk
      have hkn : (k : Int) < (len : Int) := by omega
      go_wp2_with fail
      refine (good_any f.k f.s _ hfk).mono ?_
      rintro e w2 ⟨rfl, hb2⟩
      have hown2 := owns_below hown hb2
      have hbel2 : Below w.heap.size w w2 := hbel.trans (hb2.mono hbel.size)
      have hzz : w.heap.size ≤ w2.heap.size := hbel2.size
      clear hown hbel hb2 hc hd hb hfk
      go_wp2_with (at_builtin; refine wpList_append_own _ rfl _ _ 30 rfl w.heap.size 48 i0 (.agg #[.int .i64 0, .string ⟨#[]⟩]) 2 24 Try.underlying30 hi hz0 hz1 hz2 rfl (by decide) _ k _ rfl (hown2.alloc _) ⟨w2.heap.size, 0, none⟩ 1 1 [.int .i64 (1 + f.k % 8), .string (cut40 f.s)] rfl rfl ?c1 ?c2 ?c3 ?c4 ?c5 ?_)
      case c1 =>
        intro j u hj
        match j, hj with
        | 0, hj => simp at hj; subst hj; simp [Addr.add]
        | 1, hj => simp at hj; subst hj; simp [Addr.add]
        | _ + 2, hj => simp at hj
      case c2 => intro u hu; simp at hu; rcases hu with rfl | rfl <;> rfl
      case c3 => unfold maxLen; omega
      case c4 => omega
      case c5 => simp; omega
      intro v3 w3 hown3 hgrow3 _
      have hbel3 : Below w.heap.size w w3 := (hbel2.alloc hzz _).grown hgrow3 (by simp; omega) (fun j hj => (hown2.lt j hj).1)
      have hown4 : w3.ownsRow w.heap.size 48 2 v3 (k + 1) (fc (gl fs (k + 1))) := by rw [SN.out, fc_append]; exact hown3
      clear hown3 hgrow3 hown2 hbel2
      go_wp2
      go_roundw
      case rel => exact ⟨k + 1, by omega, by omega, by go_num, hown4, hbel3⟩
      case measure => simp [intOf]; omega
    · have fine := gl_fine fs k
      have hGl := gl_length fs k (by have := HL.out; omega)
      generalize gl fs k = G at hown fine hGl
      obtain ⟨a3, c3, rfl, F3, hx3⟩ := owns_frames' hown
      have FI : Hid (∀ f ∈ G, Fine f) := fine
      have GL : Hid (G.length = k) := hGl
      have HX3 : Hid (∀ x, a3 = some x → w.heap.size ≤ x.block ∧ x.block < wr.heap.size) := hx3
      clear hown fine hGl H HL HS hx3
      rcases (by omega : (len ≤ k) ∨ (k < len ∧ 6 ≤ k)) with hx | ⟨hx, hy⟩
      all_goals
        clear hgo
        go_wp2_with fail
        refine (new_any 40 wr).mono ?_
        rintro e w4 ⟨rfl, hr4, hb4, hz4⟩
        have F4 := F3.below hb4
        have B4 : Below w.heap.size w w4 := hbel.trans (hb4.mono hbel.size)
        have hg : w.heap.size ≤ wr.heap.size := hbel.size
        have HX4 : Hid (∀ x, a3 = some x → some x.block ≠ some wr.heap.size) := fun x e h => by have h1 := (HX3.out x e).2; have h2 := Option.some.inj h; omega
        clear hb4 hbel F3 HX3 hz4
        generalize wr.heap.size = g at hr4 hg HX4
        go_wp2_with fail
        refine (cat_any a3 k c3 G w4 F4 (by omega) FI.out).mono ?_
        rintro e w5 ⟨v5, rfl, o5, hb5⟩
        have hcv := conv_owned o5
        have hL : (encL G).length ≤ 1000 := Nat.le_trans (encL_len G FI.out) (by have := GL.out; omega)
        have hap := bad_head (encL G)
        have hfa : feedB 40 ⟨[], 0⟩ (encL G ++ [9, 0, 0]) = (⟨[], 4⟩, G) := feed_after (fun f hf => (FI.out f hf).chk (by decide))
        have hsz : (mkS (encL G)).size ≤ 1000 := by rw [mkS_size]; exact hL
        have hl2 : (encL G ++ [9, 0, 0]).length ≤ 1003 := by rw [List.length_append]; simp; omega
        generalize encL G = bs at hcv hap hfa hsz hl2
        generalize hB : bs ++ [9, 0, 0] = B at hap hfa hl2
        have F5 := F4.below hb5
        have hr5 := hr4.below hb5
        have B5 : Below w.heap.size w w5 := B4.trans (hb5.mono B4.size)
        have HFA : Hid (feedB 40 ⟨[], 0⟩ B = (⟨[], 4⟩, G)) := hfa
        clear hB hfa F4 hr4 B4 hb5 o5 hL FI
        go_wp2_with fail
        refine (feed_named g 40 ⟨[], 0⟩ (mkS B) w5 hr5 (by rw [mkS_size]; show 0 + _ ≤ 2000; omega)).mono ?_
        rintro e w6 ⟨v6, r6, l6, rfl, hf6, ho6, hr6, hgr6⟩
        rw [mkS_data, HFA.out] at hf6
        obtain ⟨rfl, rfl⟩ := Prod.mk.inj hf6
        have F6 := F5.kept hgr6 HX4.out
        have B6 : Below w.heap.size w w6 := B5.grown hgr6 B5.size (fun j hj => by cases hj; exact hg)
        have hgl := GL.out
        rw [hgl] at ho6
        obtain ⟨a6, c6, rfl, P6⟩ := owns_frames ho6
        clear hf6 HFA hr5 F5 B5 hgr6 ho6 hcv hap hsz hl2 hgl GL
        go_wp2_with fail
        refine (same_any _ _ _ _ _ _ _ P6 F6).mono ?_
        rintro e w7 ⟨rfl, hb7⟩
        have hr7 := hr6.below hb7
        have B7 : Below w.heap.size w w7 := B6.trans (hb7.mono B6.size)
        clear hr6 B6 hb7 P6 F6
        go_wp2_with fail
        refine (err_at g 40 _ w7 hr7).mono ?_
        rintro e _ ⟨rfl, rfl⟩
        go_wp2_with fail
        refine (left_at g 40 _ w7 hr7).mono ?_
        rintro e _ ⟨rfl, rfl⟩
        go_wp2_with fail
        refine (few_named a' len' cap' ss w7 (H'.out.below B7) HS'.out).mono ?_
        rintro e w8 ⟨a8, n8, c8, l8, rfl, hn8, _, hS8, hx8, hb8⟩
        have hr8 := hr7.below hb8
        have B8 : Below w.heap.size w w8 := B7.trans (hb8.mono B7.size)
        have HS8 : Hid (StrsAt w8 a8 n8 c8 l8) := hS8
        have hc8 := hS8.hcap
        have hl8 := hS8.hle
        unfold maxLen at hc8
        clear hr7 B7 hb8 hS8 hx8 H' HS'
        go_wp2
        go_loopw [10] (fun i wq => ∃ j : Nat, j ≤ n8 ∧ i = .int .i64 j ∧ wq = w8) (fun i _ => n8 - (intOf i).toNat)
        case atStart => exact ⟨0, Nat.zero_le _, rfl, rfl⟩
        case round =>
          obtain ⟨j, hj, rfl, rfl⟩ := hrel
          by_cases hlt : j < n8
          · obtain ⟨b, off, rfl, hb, hc⟩ := HS8.out.at_ j hlt
            have hjn : (j : Int) < (n8 : Int) := by omega
            generalize l8.getD j ⟨#[]⟩ = f at hc
            go_wp2_with fail
            refine (feed_err_at g 40 _ f _ hr8 (by decide)).mono ?_
            rintro e _ ⟨rfl, rfl⟩
            go_wp2_with fail
            refine (left_at g 40 _ _ hr8).mono ?_
            rintro e _ ⟨rfl, rfl⟩
            go_wp2_with fail
            refine (want_err_at g 40 _ _ hr8 (by decide)).mono ?_
            rintro e _ ⟨rfl, rfl⟩
            go_wp2
            go_roundw
            case rel => exact ⟨j + 1, by omega, by go_num, by simp⟩
            case measure => simp [intOf]; omega
          · go_wp2
            go_ret
            exact ⟨rfl, B8⟩

end Go.Proofs.Ytbpflpngaipckaa
