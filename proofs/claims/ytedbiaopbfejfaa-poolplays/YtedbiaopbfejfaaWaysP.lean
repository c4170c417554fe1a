/-
  What stands in PoolWays's ways: a connection that is taken and given back; lists that last. Conditions: the pool lies where it is said to lie.
-/
import Derived.Test.YtedbiaopbfejfaaLastP
namespace Go.Proofs.Ytedbiaopbfejfaa
open Go.ChangeShapes Go.WideShapes Go.ChangeAt Go.RowKit Go.Maps

section
variable {w : World} {A : Nat → Prop} {g R K : Nat} {M l B : List Int} {x : Int}
theorem give_back (h : PAt w A g R ⟨M, l, B ++ [x]⟩ K) (hK : K ≤ 1000000) :
    Calls Try.prog 20 #[.pointer (some ⟨g, 0, none⟩), .int .i64 x] w fun e w' => e = .returned (.bool true) ∧ PAt w' A g R ⟨M, l ++ [x], B⟩ (K + 1) ∧ Keep A w w' := by
  obtain ⟨cn, hi⟩ := h.q.inv
  have hx : x ∈ (⟨M, l, B ++ [x]⟩ : St).B := by simp
  have hg := give_w h hK (hi.wf x (mem_ids.2 (.inr (.inr hx))))
  unfold giveS at hg
  rw [if_pos hx, decide_eq_true hx] at hg
  have e : gv ⟨M, l, B ++ [x]⟩ x = ⟨M, l ++ [x], B⟩ := by
    unfold gv
    show St.mk M (l ++ [x]) (less (B ++ [x]) x) = _
    rw [less_end hi.nB]
  rw [e] at hg
  exact hg
end

theorem dr_I (s : St) (x : Int) : (dr s x).I = less s.I x := rfl
theorem all_less (s : St) (x : Int) : less (srt s.ids) x = srt (dr s x).ids := by rw [ids_dr, srt_less]
theorem has_all (s : St) (x : Int) : decide (x ∈ srt s.ids) = decide (x ∈ s.ids) := by
  rw [decide_eq_decide]
  exact mem_srt
theorem list_end (l : List Int) (h : l ≠ []) : ∃ l' x, l = l' ++ [x] := by
  rcases List.eq_nil_or_concat l with h1 | ⟨l', x, h1⟩
  · exact absurd h1 h
  · exact ⟨l', x, by rw [h1, List.concat_eq_append]⟩

theorem LAt.rdn {w : World} {B n : Nat} {a : Option Addr} {c : Nat} {zs : List Int} (h : LAt w B a c zs) (hn : zs.length = n) : IntsAt w a n c zs := hn ▸ h.rd

section
variable {w w5 w6 : World} {A : Nat → Prop} {g R K n : Nat} {s : St}
/-- With its answer's length by name. -/
theorem idle_n (h : PAt w A g R s K) (zz : List Int) (hzz : s.I = zz) (hn : zz.length = n) :
    Calls Try.prog 31 #[.pointer (some ⟨g, 0, none⟩)] w fun e w' => ∃ a c, e = .returned (.slice a n c) ∧ LAt w' w.heap.size a c zz ∧ Below w.heap.size w w' := by
  have := idle_w h zz hzz
  rw [hn] at this
  exact this
theorem busy_n (h : PAt w A g R s K) (zz : List Int) (hzz : srt s.B = zz) (hn : zz.length = n) :
    Calls Try.prog 32 #[.pointer (some ⟨g, 0, none⟩)] w fun e w' => ∃ a c, e = .returned (.slice a n c) ∧ LAt w' w.heap.size a c zz ∧ Below w.heap.size w w' := by
  have := busy_w h zz hzz
  rw [hn] at this
  exact this
theorem making_n (h : PAt w A g R s K) (zz : List Int) (hzz : srt s.M = zz) (hn : zz.length = n) :
    Calls Try.prog 29 #[.pointer (some ⟨g, 0, none⟩)] w fun e w' => ∃ a c, e = .returned (.slice a n c) ∧ LAt w' w.heap.size a c zz ∧ Below w.heap.size w w' := by
  have := making_w h zz hzz
  rw [hn] at this
  exact this
theorem all_n (h : PAt w A g R s K) (zz : List Int) (hzz : srt s.ids = zz) (hn : zz.length = n) :
    Calls Try.prog 33 #[.pointer (some ⟨g, 0, none⟩)] w fun e w' => ∃ a c, e = .returned (.slice a n c) ∧ LAt w' w.heap.size a c zz ∧ Below w.heap.size w w' := by
  have := all_w h zz hzz
  rw [hn] at this
  exact this

theorem less_n (a : Option Addr) (len cap : Nat) (zs : List Int) (x : Int) (h : IntsAt w a len cap zs) (h900 : len ≤ 900) (yy : List Int) (hy : less zs x = yy) (hn : yy.length = n) :
    Calls Try.prog 36 #[.slice a len cap, .int .i64 x] w fun e w' => ∃ a c, e = .returned (.slice a n c) ∧ LAt w' w.heap.size a c yy ∧ Below w.heap.size w w' := by
  refine (less_any w a len cap zs x h h900 yy hy).mono ?_
  rintro e w' ⟨v, rfl, ho, hb⟩
  obtain ⟨a2, c2, rfl, hl⟩ := lat_of ho
  rw [hn]
  exact ⟨a2, c2, rfl, hl, hb⟩
theorem drop_b (h : PAt w A g R s K) {x : Int} (hx : Wf x) (b : Bool) (hb : decide (x ∈ s.ids) = b) : Calls Try.prog 22 #[.pointer (some ⟨g, 0, none⟩), .int .i64 x] w fun e w' => e = .returned (.bool b) ∧ PAt w' A g R (dr s x) K ∧ Keep A w w' := by
  have := drop_w h hx
  rw [hb] at this
  exact this

/-- Two lists were answered, one behind the other: they last while what is none of the pool's is not written. -/
theorem two_lists (h : PAt w A g R s K) (hb5 : Below w.heap.size w w5) (hb6 : Below w5.heap.size w5 w6) {a5 a6 : Option Addr} {c5 c6 : Nat} {z5 z6 : List Int} (hl5 : LAt w5 w.heap.size a5 c5 z5) (hl6 : LAt w6 w5.heap.size a6 c6 z6) :
    ∃ A2 : Nat → Prop, PAt w6 A2 g R s K ∧ (∀ k, A k → A2 k) ∧ (∀ wX, Keep A2 w6 wX → LAt wX w.heap.size a5 c5 z5 ∧ LAt wX w5.heap.size a6 c6 z6) := by
  refine ⟨fun k => A k ∨ (w.heap.size ≤ k ∧ k < w6.heap.size), h.below (below_trans hb5 hb6), fun k hk => .inl hk, fun wX hk => ⟨?_, ?_⟩⟩
  · exact (hl5.below hb6).keep hk (fun k h1 h2 => .inr ⟨h1, h2⟩)
  · exact hl6.keep hk (fun k h1 h2 => .inr ⟨by have := hb5.size; omega, h2⟩)
end

end Go.Proofs.Ytedbiaopbfejfaa
