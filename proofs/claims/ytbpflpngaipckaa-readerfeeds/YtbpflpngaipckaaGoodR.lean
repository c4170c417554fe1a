/-
  Plain mathematics of a reader: what it has is never a whole frame; so its bytes are at most the cap and 2; without an error it wants at least one; with fewer than it wants nothing is told. No conditions. And Left, Err once more, the world by its name.
-/
import Derived.Test.YtbpflpngaipckaaFeed
namespace Go.Proofs.Ytbpflpngaipckaa
open Go.ChangeShapes Go.WideShapes Go.ChangeAt Go.RowKit

theorem chk_ne2 (k n c : Int) : chk k n c ≠ 2 := by unfold chk; split <;> (try split) <;> omega

/-- Bytes are missing in a head just where there are not three. -/
theorem headB_two {bs : List UInt8} {c : Int} (h : (headB bs c).2.2 = 2) : bs.length < 3 := by
  match bs with
  | [] => simp
  | [_] => simp
  | [_, _] => simp
  | a :: b :: d :: r =>
    exfalso
    by_cases h0 : chk a.toNat (b.toNat * 256 + d.toNat) c = 0
    · rw [headB_ok h0] at h
      exact absurd (show (0 : Int) = 2 from h) (by decide)
    · rw [headB_bad h0] at h
      exact chk_ne2 _ _ _ h

theorem headB_app {bs r : List UInt8} {c : Int} (h : 3 ≤ bs.length) : headB (bs ++ r) c = headB bs c := by
  match bs, h with
  | a :: b :: d :: t, _ => rfl

/-- Where a frame is missing: fewer than three, or fewer than the head says. -/
theorem readB_two {bs : List UInt8} {c : Int} (h : (readB bs c).2.2 = 2) : (bs.length < 3 ∧ (headB bs c).2.1 = 0) ∨ (3 ≤ bs.length ∧ (headB bs c).2.2 = 0 ∧ 0 ≤ (headB bs c).2.1 ∧ (headB bs c).2.1 ≤ capd c ∧ (bs.length : Int) < 3 + (headB bs c).2.1) := by
  rcases headB_cases bs c with ⟨h0, _, h1, _, _⟩ | ⟨h0, _, _, h1, h2, h3⟩
  · rw [readB_head h0] at h
    exact .inl ⟨headB_two h, h1⟩
  · refine .inr ⟨h3, h0, h1, h2, ?_⟩
    by_cases hl : (bs.length : Int) < 3 + (headB bs c).2.1
    · exact hl
    · rw [readB_ok h0 (by omega)] at h
      exact absurd (show (0 : Int) = 2 from h) (by decide)

theorem allF_rest (c : Int) : ∀ (fu : Nat) (bs : List UInt8), bs.length < fu → (allF fu bs c).2.2 = 0 → (readB (bs.drop (allF fu bs c).2.1) c).2.2 = 2
  | 0, _, h, _ => absurd h (Nat.not_lt_zero _)
  | fu + 1, bs, h, he => by
    have hb := readB_bd bs c
    by_cases h2 : (readB bs c).2.2 = 2
    · rw [allF_form h2]
      exact h2
    · by_cases h0 : (readB bs c).2.2 = 0
      · rw [allF_step h0] at he ⊢
        have h3 := hb.2.2.2.2 h0
        have := allF_rest c fu (bs.drop (readB bs c).2.1.toNat) (by rw [List.length_drop]; omega) he
        rw [List.drop_drop] at this
        exact this
      · rw [allF_bad h2 h0] at he
        exact absurd he h0
theorem allB_rest {bs : List UInt8} {c : Int} (h : (allB bs c).2.2 = 0) : (readB (bs.drop (allB bs c).2.1) c).2.2 = 2 := allF_rest c _ bs (Nat.lt_succ_self _) h
theorem allB_none {bs : List UInt8} {c : Int} (h : (readB bs c).2.2 = 2) : allB bs c = ([], 0, 0) := allF_form h

theorem allF_err (c : Int) : ∀ (fu : Nat) (bs : List UInt8), 0 ≤ (allF fu bs c).2.2 ∧ (allF fu bs c).2.2 ≤ 4
  | 0, _ => ⟨Int.le_refl _, (by decide : (0 : Int) ≤ 4)⟩
  | fu + 1, bs => by
    have hb := readB_bd bs c
    by_cases h2 : (readB bs c).2.2 = 2
    · rw [allF_form h2]; exact ⟨Int.le_refl _, (by decide : (0 : Int) ≤ 4)⟩
    · by_cases h0 : (readB bs c).2.2 = 0
      · rw [allF_step h0]; exact allF_err c fu _
      · rw [allF_bad h2 h0]; exact ⟨hb.1, hb.2.1⟩

/-- A reader that came about by bytes. -/
def GoodR (c : Int) (r : Rd) : Prop := (r.e ≠ 0 ∧ r.h = []) ∨ (r.e = 0 ∧ (readB r.h c).2.2 = 2)
theorem good_new (c : Int) : GoodR c ⟨[], 0⟩ := .inr ⟨rfl, by rw [readB_none]⟩
theorem good_feed {c : Int} {r : Rd} (h : GoodR c r) (b : List UInt8) : GoodR c (feedB c r b).1 := by
  by_cases he : r.e = 0
  · by_cases h2 : (allB (r.h ++ b) c).2.2 = 0
    · rw [feedB_ok he h2]
      exact .inr ⟨rfl, allB_rest h2⟩
    · rw [feedB_bad he h2]
      exact .inl ⟨h2, rfl⟩
  · rw [feedB_err he]
    exact h
theorem good_left {c : Int} {r : Rd} (h : GoodR c r) : (r.h.length : Int) ≤ capd c + 2 := by
  have hc := capd_lo c
  rcases h with ⟨_, h⟩ | ⟨_, h⟩
  · rw [h]; simp; omega
  · rcases readB_two h with ⟨h1, _⟩ | ⟨_, _, _, h2, h3⟩ <;> omega
theorem good_want {c : Int} {r : Rd} (h : GoodR c r) (he : r.e = 0) : 0 < wantB c r := by
  unfold wantB
  rw [if_neg (by simpa using he)]
  rcases h with ⟨h, _⟩ | ⟨_, h⟩
  · exact absurd he h
  · rcases readB_two h with ⟨h1, h2⟩ | ⟨_, _, _, _, h3⟩ <;> omega
theorem want_zero {c : Int} {r : Rd} (he : r.e ≠ 0) : wantB c r = 0 := by unfold wantB; rw [if_pos he]
theorem good_empty {c : Int} {r : Rd} (h : GoodR c r) (he : r.e ≠ 0) : r.h = [] := by
  rcases h with ⟨_, h⟩ | ⟨h, _⟩
  · exact h
  · exact absurd h he
theorem want_none {c : Int} {r : Rd} (h : GoodR c r) (he : r.e = 0) {b : List UInt8} (hb : (b.length : Int) < wantB c r) : (feedB c r b).2 = [] := by
  unfold wantB at hb
  rw [if_neg (by simpa using he)] at hb
  have h2 : (readB (r.h ++ b) c).2.2 = 2 := by
    rcases h with ⟨h, _⟩ | ⟨_, h⟩
    · exact absurd he h
    · rcases readB_two h with ⟨h1, h2⟩ | ⟨h1, h2, _, _, h3⟩
      · have hs : (r.h ++ b).length < 3 := by rw [List.length_append]; omega
        rw [readB_head (by rw [headB_short hs]; decide), headB_short hs]
      · rw [readB_part (by rw [headB_app h1]; exact h2) (by rw [headB_app h1, List.length_append]; omega)]
  have ha := allB_none h2
  rw [feedB_ok he (by rw [ha]), ha]

theorem err_at (g : Nat) (c : Int) (r : Rd) (w : World) (h : RAt w g c r) :
    Calls Try.prog 17 #[.pointer (some ⟨g, 0, none⟩)] w fun e w' => e = .returned (.int .i64 r.e) ∧ w = w' := (err_any g c r w h).mono fun _ _ h => ⟨h.1, h.2.symm⟩
theorem left_at (g : Nat) (c : Int) (r : Rd) (w : World) (h : RAt w g c r) :
    Calls Try.prog 16 #[.pointer (some ⟨g, 0, none⟩)] w fun e w' => e = .returned (.int .i64 r.h.length) ∧ w = w' := (left_any g c r w h).mono fun _ _ h => ⟨h.1, h.2.symm⟩

end Go.Proofs.Ytbpflpngaipckaa
