/-
  The walk of ReaderPieces: it returns true and turns nothing that was there. Conditions: the slice reads as ints; the text is no longer than the greatest length.
-/
import Derived.Test.YtbpflpngaipckaaPiecesP
import Derived.Test.YtbpflpngaipckaaSplitsW
import Derived.Test.YtbpflpngaipckaaSame
import Derived.Maps.Range
namespace Go.Proofs.Ytbpflpngaipckaa
open Go.ChangeShapes Go.WideShapes Go.ChangeAt Go.RowKit

theorem fc_one (fs : List Fr) : ∀ u ∈ fc fs, u.oneCell' = true := by
  induction fs with
  | nil => intro u hu; cases hu
  | cons f r ih =>
    intro u hu
    simp only [fc, List.mem_cons] at hu
    rcases hu with rfl | rfl | hu
    · rfl
    · rfl
    · exact ih u hu

/-- An append of frames onto a row of the call's own, out of a row of a callee's: nil, empty or not. -/
theorem append_frames_any (w : World) {ops : Array Oper} {rest : List Oper} {o : Oper} {a : Act} {Q : Exit → Act → World → Prop} (hgd : o.guard = none) (s x : Operand)
    (ho : o.op = .call { callee := .builtin .append, args := #[s, x], argTypes := #[30, 30] }) (base base' : Nat) (i : TypeInfo) (hi : Try.prog.info? 48 = some i) (hz : i.zero = some (.agg #[.int .i64 0, .string ⟨#[]⟩])) (hsize : i.size = 2) (hby : i.bytes = 24)
    (v v2 : Value) (n m : Nat) (xs ys : List Fr) (hs : a.eval s = v) (hown : w.ownsRow base 48 2 v n (fc xs)) (hx : a.eval x = v2) (hown2 : w.ownsRow base' 48 2 v2 m (fc ys))
    (hnm : n + m ≤ 100000) (hbase : base ≤ w.heap.size)
    (h : ∀ v' w', w'.ownsRow base 48 2 v' (n + m) (fc (xs ++ ys)) → w.grownBy w' v.ownBlock → wpList Try.prog ops Q rest (a.put o.dst v') w') : wpList Try.prog ops Q (o :: rest) a w := by
  have hl := hown2.1
  rcases hown2.2 with ⟨rfl, rfl⟩ | ⟨g, cap, cur, rfl, _, _, _, _, _, _⟩
  · obtain rfl : ys = [] := by
      rw [fc_length] at hl
      exact List.eq_nil_of_length_eq_zero (by omega)
    exact wpList_append_own_none hgd s x 30 ho base 48 i 2 Try.underlying30 hi v n _ hs hown hx (h v w (by simpa using hown) (World.grownBy.refl _ _))
  · refine wpList_append_own w hgd s x 30 ho base 48 i (.agg #[.int .i64 0, .string ⟨#[]⟩]) 2 24 Try.underlying30 hi hz hsize hby rfl (by decide) v n _ hs hown ⟨g, 0, none⟩ m cap (fc ys) hx hl (hown2.cells (g := g) rfl) (fc_one ys) (by unfold maxLen; omega) (by omega) hbase ?_
    intro v' w' h1 h2 _
    exact h v' w' (by rw [fc_append]; exact h1) h2

theorem owns_frames' {w : World} {base n : Nat} {v : Value} {fs : List Fr} (h : w.ownsRow base 48 2 v n (fc fs)) : ∃ a cap, v = .slice a n cap ∧ FramesAt w a n cap fs ∧ ∀ x, a = some x → base ≤ x.block ∧ x.block < w.heap.size := by
  obtain ⟨a, cap, rfl, hF⟩ := owns_frames h
  refine ⟨a, cap, rfl, hF, fun x e => ?_⟩
  subst e
  exact h.lt x.block rfl

/-- Feed, what comes of it by names. -/
theorem feed_named (g : Nat) (c : Int) (r : Rd) (s : ByteArray) (w : World) (h : RAt w g c r) (hl : r.h.length + s.size ≤ 2000) :
    Calls Try.prog 13 #[.pointer (some ⟨g, 0, none⟩), .string s] w fun e w' => ∃ v r' l, e = .returned (.tuple #[v, .int .i64 r'.e]) ∧ feedB c r s.data.toList = (r', l) ∧
      w'.ownsRow w.heap.size 48 2 v l.length (fc l) ∧ RAt w' g c r' ∧ w.grownBy w' (some g) := by
  refine (feed_any g c r s w h hl).mono ?_
  rintro e w' ⟨v, rfl, ho, hr, hg⟩
  exact ⟨v, _, _, rfl, rfl, ho, hr, hg⟩

/-- How long the texts of pieces are, one more with it. -/
theorem piece_len {ps : List ByteArray} {k m : Nat} (hk : k < ps.length) (hm : (joinB ps).length ≤ m) : (joinB (ps.take k)).length + (ps.getD k ⟨#[]⟩).size ≤ m ∧ (joinB (ps.take (k + 1))).length ≤ m := by
  have h1 := joinB_take_len ps (k + 1)
  have h2 := h1
  rw [joinB_snoc ps k hk, List.length_append, data_len] at h1
  exact ⟨Nat.le_trans h1 hm, Nat.le_trans h2 hm⟩

/-- The row of the call's own lies from a base on: what was there below it is another block. -/
theorem own_ne {w : World} {base n g : Nat} {v : Value} {xs : List Value} {e : TypeId} {z : Nat} (h : w.ownsRow base e z v n xs) (hg : g < base) : some g ≠ v.ownBlock := fun e => by have := (h.lt g e.symm).1; omega
theorem own_ne' {w : World} {base n g : Nat} {v : Value} {xs : List Value} {e : TypeId} {z : Nat} (h : w.ownsRow base e z v n xs) (hg : g < base) : v.ownBlock = none ∨ v.ownBlock ≠ some g := .inr (Ne.symm (own_ne h hg))

set_option maxHeartbeats 4000000 in
set_option maxRecDepth 100000 in
theorem pieces_any (c : Int) (s : ByteArray) (a : Option Addr) (len cap : Nat) (zs : List Int) (w : World) (hs : s.size ≤ maxLen) (hI0 : IntsAt w a len cap zs) :
    Calls Try.prog 4 #[.int .i64 c, .string s, .slice a len cap] w fun e w' => e = .returned (.bool true) ∧ Below w.heap.size w w' := by
  have hcap := hI0.hcap
  have hle := hI0.hle
  unfold maxLen at hcap hs
  obtain ⟨i0, hi, hz0, hz1, hz2⟩ := info_parts Try.info48
  rcases (show s.size ≤ 200 ∨ (200 : Int) < (s.size : Int) by omega) with h1 | h1 <;> rcases (show len ≤ 20 ∨ (20 : Int) < (len : Int) by omega) with h2 | h2
  all_goals
    go_enter Try.func4, Try.ntmps4
    go_wp2_with fail
    refine (lives_any w).mono ?_
    rintro e w1 ⟨rfl, hb1⟩
    go_wp2_with fail
    first
      | (have hI : IntsAt w a len cap zs ∧ len ≤ 20 := ⟨hI0, h2⟩; obtain ⟨hI, hM⟩ := hI)
      | (have hI : IntsAt w a 20 cap (zs.take 20) ∧ 20 ≤ 20 := ⟨hI0.take (by omega), Nat.le_refl _⟩; obtain ⟨hI, hM⟩ := hI)
    first
      | (have hB : s.size ≤ 200 := h1)
      | (have hB : (s.extract 0 200).size ≤ 200 := by rw [ByteArray.size_extract]; omega)
    refine (new_any c w1).mono ?_
    rintro e w2 ⟨rfl, hr2, hb2, hz2'⟩
    go_wp2_with fail
    refine (new_any c w2).mono ?_
    rintro e w3 ⟨rfl, hs3, hb3, hz3⟩
    have hr3 := hr2.below hb3
    have B3 : Below w.heap.size w w3 := (hb1.trans (hb2.mono hb1.size)).trans (hb3.mono (by have := hb1.size; omega))
    have hg1 : w.heap.size ≤ w1.heap.size := hb1.size
    have hg2 : w1.heap.size < w2.heap.size := by omega
    have hg3 : w2.heap.size < w3.heap.size := by omega
    clear hr2 hb2 hb3 hb1 hz2' hz3 hI0 h1 h2 hs hcap hle
    generalize w1.heap.size = g1 at hr3 hg1 hg2
    generalize w2.heap.size = g2 at hs3 hg2 hg3
    clear w1 w2
    go_wp2_with fail
    refine (feed_named g1 c ⟨[], 0⟩ _ w3 hr3 (by show 0 + _ ≤ 2000; omega)).mono ?_
    rintro e w4 ⟨v4, R, L, rfl, hf4, ho4, hr4, hgr4⟩
    have hs4 := hs3.kept hgr4 (by intro e; cases e; omega)
    have B4 : Below w.heap.size w w4 := B3.grown hgr4 B3.size (fun j hj => by cases hj; exact hg1)
    obtain ⟨a4, c4, rfl, hF4, hx4⟩ := owns_frames' ho4
    have hxg : ∀ x, a4 = some x → some x.block ≠ some g2 := fun x e h => by have := (hx4 x e).1; cases h; omega
    have hg4 : g2 < w4.heap.size := hs4.lt
    have HX4 : Hid (∀ x, a4 = some x → some x.block ≠ some g2) := hxg
    clear hs3 hr3 hgr4 B3 ho4 hx4 hxg
    go_wp2_with fail
    refine (split_named _ _ _ _ _ w4 (hI.below B4) hM (by omega)).mono ?_
    rintro e w5 ⟨a5, c5, ps, rfl, _, hj, hS5, hx5, hb5⟩
    have hjl : (joinB ps).length ≤ 200 := by rw [hj, data_len]; exact hB
    rw [← hj] at hf4
    have HF : Hid (feedB c ⟨[], 0⟩ (joinB ps) = (R, L)) := hf4
    have HR : Hid (R.h.length ≤ 2000) := by have := (feed_len hf4).1; show R.h.length ≤ 2000; omega
    have hs5 := hs4.below hb5
    have hr5 := hr4.below hb5
    have hF5 := hF4.below hb5
    have B5 : Below w.heap.size w w5 := B4.trans (hb5.mono B4.size)
    have hg5 : g2 < w5.heap.size := hs5.lt
    have HX5 : Hid (∀ x, a5 = some x → some x.block ≠ some g2) := fun x e h => by have := (hx5 x e).1; cases h; omega
    have hw5 : w.heap.size ≤ w5.heap.size := B5.size
    clear hs4 hr4 hF4 B4 hb5 hx5 hf4 hj hI hM hB
    have H5 : Hid (StrsAt w5 a5 ps.length c5 ps) := hS5
    have HF5 : Hid (FramesAt w5 a4 L.length c4 L) := hF5
    have HR5 : Hid (RAt w5 g1 c R) := hr5
    have hc5 := hS5.hcap
    have hl5 := hS5.hle
    unfold maxLen at hc5
    clear hS5 hF5 hr5 hg4
    generalize hn : ps.length = n at hc5 hl5 H5
    go_wp2
    go_loopw [12, 13, 14] (fun v f i wr => ∃ (k : Nat) (r : Rd) (gl : List Fr), k ≤ n ∧ i = .int .i64 k ∧ f = .int .i64 r.e ∧ Hid (feedB c ⟨[], 0⟩ (joinB (ps.take k)) = (r, gl)) ∧ RAt wr g2 c r ∧ wr.ownsRow w5.heap.size 48 2 v gl.length (fc gl) ∧ w5.grownBy wr (some g2))
      (fun _ _ i _ => n - (intOf i).toNat)
    case atStart => exact ⟨0, ⟨[], 0⟩, [], Nat.zero_le _, rfl, rfl, feedB_none c, hs5, World.ownsRow_nil _ _ _ _, World.grownBy.refl _ _⟩
    case round =>
      obtain ⟨k, r, gl, hk, rfl, rfl, hcut, hr, hown, hgr⟩ := hrel
      clear hs5
      by_cases hlt : k < n
      · obtain ⟨b, off, rfl, hb, hc⟩ := (H5.out.kept hgr HX5.out).at_ k hlt
        have hkn : (k : Int) < (n : Int) := by omega
        have hsn := feed_snoc hcut.out (by omega)
        have hpl := piece_len (k := k) (by omega) hjl
        have hfl := feed_len hcut.out
        generalize ps.getD k ⟨#[]⟩ = f at hc hsn hpl
        have HSN : Hid (feedB c ⟨[], 0⟩ (joinB (ps.take (k + 1))) = ((feedB c r f.data.toList).1, gl ++ (feedB c r f.data.toList).2)) := hsn
        have hpl2 : (joinB (ps.take (k + 1))).length ≤ 200 := hpl.2
        have hrl : r.h.length + f.size ≤ 2000 := by omega
        clear hsn hcut hpl hfl
        go_wp2_with fail
        refine (feed_named g2 c r f wr hr hrl).mono ?_
        rintro e w6 ⟨v6, r6, l6, rfl, hf6, ho6, hr6, hgr6⟩
        have hsn : feedB c ⟨[], 0⟩ (joinB (ps.take (k + 1))) = (r6, gl ++ l6) := by have h := HSN.out; rw [hf6] at h; exact h
        have hfl6 := (feed_len hsn).2
        rw [List.length_append] at hfl6
        have HSN6 : Hid (feedB c ⟨[], 0⟩ (joinB (ps.take (k + 1))) = (r6, gl ++ l6)) := hsn
        have hown6 := hown.kept hgr6 (own_ne' hown hg5)
        have hgr56 := hgr.trans hgr6
        have hcnt : gl.length + l6.length ≤ 100000 := by omega
        clear hsn HSN hf6 hown hr hgr hgr6 hfl6 hpl2 hrl hc
        go_wp2_with (at_builtin; refine append_frames_any _ rfl _ _ rfl w5.heap.size wr.heap.size i0 hi hz0 hz1 hz2 _ _ gl.length l6.length gl l6 rfl hown6 rfl ho6 hcnt hgr56.size ?_)
        intro v7 w7 ho7 hgr7
        have hr7 := hr6.kept hgr7 (own_ne hown6 hg5)
        have hgr57 := hgr56.andThen hgr7 (fun j hj => .inl (hown6.lt j hj).1)
        rw [← List.length_append] at ho7
        clear hown6 hr6 hgr56 hgr7 ho6
        go_wp2
        go_roundw
        case rel => exact ⟨k + 1, r6, gl ++ l6, by omega, by go_num, rfl, HSN6, hr7, ho7, hgr57⟩
        case measure => simp [intOf]; omega
      · have hend := hcut.out
        rw [List.take_of_length_le (by omega), HF.out] at hend
        obtain ⟨rfl, rfl⟩ := Prod.mk.inj hend
        have hF := HF5.out.kept hgr HX4.out
        have hr1 := HR5.out.kept hgr (by intro e; cases e; omega)
        obtain ⟨a7, c7, rfl, hG⟩ := owns_frames hown
        have BE : Below w.heap.size w wr := B5.grown hgr hw5 (fun j hj => by cases hj; omega)
        clear hend hcut HF HF5 HR5 hgr hown H5 HX4 HX5 B5 hjl
        go_wp2_with fail
        refine (same_any _ _ _ _ _ _ _ hF hG).mono ?_
        rintro e w8 ⟨rfl, hb8⟩
        have hr8 := hr.below hb8
        have hr18 := hr1.below hb8
        have B8 : Below w.heap.size w w8 := BE.trans (hb8.mono BE.size)
        clear hb8 hr hr1 BE hF hG
        go_wp2_with fail
        refine (left_at g1 c R w8 hr18).mono ?_
        rintro e _ ⟨rfl, rfl⟩
        go_wp2_with fail
        refine (left_at g2 c R w8 hr8).mono ?_
        rintro e _ ⟨rfl, rfl⟩
        go_wp2_with fail
        refine (err_at g1 c R w8 hr18).mono ?_
        rintro e _ ⟨rfl, rfl⟩
        go_wp2_with fail
        refine (err_at g2 c R w8 hr8).mono ?_
        rintro e _ ⟨rfl, rfl⟩
        go_wp2_with fail
        refine (want_any g1 c R w8 hr18 HR.out).mono ?_
        rintro e w9 ⟨rfl, hb9⟩
        have hr9 := hr8.below hb9
        have B9 : Below w.heap.size w w9 := B8.trans (hb9.mono B8.size)
        clear hb9 hr8 hr18 B8
        go_wp2_with fail
        refine (want_any g2 c R w9 hr9 HR.out).mono ?_
        rintro e w10 ⟨rfl, hb10⟩
        go_wp2
        go_ret
        exact ⟨rfl, B9.trans (hb10.mono B9.size)⟩

end Go.Proofs.Ytbpflpngaipckaa
