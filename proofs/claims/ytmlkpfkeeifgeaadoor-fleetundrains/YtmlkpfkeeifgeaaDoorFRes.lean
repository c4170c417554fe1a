/-
  What Resolve does. Conditions: a fleet lies where it is said to lie, of at most 3900 hosts, and drains; of its drains none stands twice; a name is no longer than the greatest length; the list lies in none of its blocks.
-/
import Derived.Test.YtmlkpfkeeifgeaaDoorFEn
import Derived.Test.YtmlkpfkeeifgeaaDoorDf
namespace Go.Proofs.YtmlkpfkeeifgeaaDoor
open Go.ChangeShapes Go.WideShapes Go.ChangeAt Go.RowKit

theorem df_strs {w : World} {a : Option Addr} {n c : Nat} {l : List ByteArray} (h : StrsAt w a n c l) : Df.StrsAt w a n c l := ⟨h.hlen, h.hle, h.hcap, h.at_⟩
theorem chk_len {l : List ByteArray} (h : Df.chk l = 0) : l.length ≤ 16 := by
  rcases Nat.lt_or_ge 16 l.length with h1 | h1
  · rw [Df.chk_long h1] at h
    cases h
  · exact h1
theorem lvL_inv (l : List ByteArray) (d : Int) : ∀ (H : List Hs) (L M : List Dr), Inv L M → Inv (lvL l d H L M).1 (lvL l d H L M).2
  | [], _, _, h => h
  | x :: H, L, M, h => by
    show Inv (if lvBeg l x = true then _ else _ : List Dr × List Dr).1 (if lvBeg l x = true then _ else _ : List Dr × List Dr).2
    split
    · exact lvL_inv l d H _ _ (h.begun x.nm d)
    · exact lvL_inv l d H _ _ h

theorem StrsAt.keep0 {A : Nat → Prop} {w w' : World} {l : List ByteArray} {a : Option Addr} {len cap : Nat} (h : StrsAt w a len cap l) (hk : Keep A w w') (hA : 0 < len → ∀ x, a = some x → A x.block) : StrsAt w' a len cap l :=
  ⟨h.hlen, h.hle, h.hcap, fun j hj => (h.keepB hk (hA (Nat.lt_of_le_of_lt (Nat.zero_le _) hj))).at_ j hj⟩

set_option maxHeartbeats 1000000 in
theorem fresolve_w0 {w : World} {A : Nat → Prop} {f : Nat} {e gd : Int} {s : Fl} {l : List ByteArray} (h : FIn w A f e gd s.H s.L s.M) (hv : Inv s.L s.M) (al : Option Addr) (nl cl : Nat) (hl : StrsAt w al nl cl l) (hA : 0 < nl → ∀ x, al = some x → A x.block) (hls : ∀ x ∈ l, x.size ≤ maxLen) (d : Int) (hn : s.H.length ≤ 3900) (hm : s.M.length + s.H.length ≤ 4000) (hsz : ∀ i, i < s.H.length → (atH s.H i).nm.size ≤ maxLen) :
    Calls Tryd.prog 21 #[.pointer (some ⟨f, 0, none⟩), .slice al nl cl, .int .i64 d] w fun r w' => ∃ va vb, r = .returned (.tuple #[va, vb, .int .i64 (reE l)]) ∧ w'.ownsRow w.heap.size 9 1 va (reC l d s).length (sc (reC l d s)) ∧ w'.ownsRow w.heap.size 9 1 vb (reN l s).length (sc (reN l s)) ∧
      FIn w' (fun k => (A k ∨ vb.ownBlock = some k) ∨ va.ownBlock = some k) f e gd (reS l d s).H (reS l d s).L (reS l d s).M ∧ Keep A w w' := by
  have hc := Df.check_any al nl cl l w (df_strs hl) hls
  have HF := Hid.mk' h
  unfold reE
  by_cases h0 : Df.chk l = 0
  · have e1 : reC l d s = enN l (lvS l d s) := by unfold reC; rw [if_pos h0]
    have e2 : reN l s = lvN l s.H := by unfold reN; rw [if_pos h0]
    have e3 : reS l d s = enS l (lvS l d s) := by unfold reS; rw [if_pos h0]
    rw [e1, e2, e3, h0]
    rw [h0] at hc
    have hlen := chk_len h0
    have hll := hl.hlen
    have HL : Hid (∀ w1, Below w.heap.size w w1 → Calls Tryd.prog 53 #[.pointer (some ⟨f, 0, none⟩), .slice al nl cl, .int .i64 d] w1 fun r w2 => ∃ v, r = .returned v ∧ w2.ownsRow w.heap.size 9 1 v (lvN l s.H).length (sc (lvN l s.H)) ∧ Keep A w w2 ∧
        Calls Tryd.prog 54 #[.pointer (some ⟨f, 0, none⟩), .slice al nl cl] w2 fun r w3 => ∃ va, r = .returned va ∧ w3.ownsRow w.heap.size 9 1 va (enN l (lvS l d s)).length (sc (enN l (lvS l d s))) ∧ w3.ownsRow w.heap.size 9 1 v (lvN l s.H).length (sc (lvN l s.H)) ∧
          FIn w3 (fun k => (A k ∨ v.ownBlock = some k) ∨ va.ownBlock = some k) f e gd (enS l (lvS l d s)).H (enS l (lvS l d s)).L (enS l (lvS l d s)).M ∧ Keep A w w3) := fun w1 hb1 => by
      refine (fleave_w (h.below hb1) hv al nl cl (hl.below (Nat.le_refl _) hb1) hA d (by omega) hm hsz).mono fun r w2 ⟨v, q1, q2, q3, q4⟩ => ⟨v, q1, own_mono q2 hb1.size, (keep_below hb1).trans q4, ?_⟩
      have hk2 : Keep A w w2 := (keep_below hb1).trans q4
      refine (fenter_w (s := lvS l d s) (l := l) q3 (lvL_inv l d _ _ _ hv) al nl cl (hl.keep0 hk2 hA) (fun h0 x hx => .inl (hA h0 x hx)) (Nat.le_trans (lvH_len l s.H) hn) (by omega)).mono fun r w3 ⟨va, t1, t2, t3, t4⟩ => ⟨va, t1, own_mono t2 (Nat.le_trans hb1.size q4.size), own_mono (owns_keep q2 t4 (fun k hk => .inr hk)) hb1.size, t3, hk2.trans (t4.mono fun k _ hA => .inl hA)⟩
    clear h hl h0 e1 e2 e3
    generalize lvS l d s = s2 at *
    go_enter Tryd.func21, Tryd.ntmps21
    go_wp2_with (first
      | (go_at_call 52; refine hc.mono ?_; rintro e w1 ⟨rfl, hb1⟩; have hle := HL.out w1 hb1)
      | (go_at_call 53; refine hle.mono ?_; rintro e w2 ⟨v, rfl, ho2, hk2, hen⟩)
      | (go_at_call 54; refine hen.mono ?_; rintro e w3 ⟨va, rfl, ho3, ho3', hf3, hk3⟩))
    refine bodyPost_ret (v := .tuple #[va, v, .int .i64 0]) (by simp [results, Tryd.results21, go_sem]) rfl ?_
    exact ⟨va, v, rfl, ho3, ho3', hf3, hk3⟩
  · have e1 : reC l d s = [] := by unfold reC; rw [if_neg h0]
    have e2 : reN l s = [] := by unfold reN; rw [if_neg h0]
    have e3 : reS l d s = s := by unfold reS; rw [if_neg h0]
    rw [e1, e2, e3]
    have h0' : (Df.chk l != 0) = true := bne_iff_ne.2 h0
    generalize Df.chk l = C at *
    clear h hl h0 e1 e2 e3
    go_enter Tryd.func21, Tryd.ntmps21
    go_wp2_with (first
      | (go_at_call 52; refine hc.mono ?_; rintro e w1 ⟨rfl, hb1⟩))
    refine bodyPost_ret (v := .tuple #[.slice none 0 0, .slice none 0 0, .int .i64 C]) (by simp [results, Tryd.results21, go_sem]) rfl ?_
    refine ⟨_, _, rfl, World.ownsRow_nil _ _ _ _, World.ownsRow_nil _ _ _ _, (HF.out.below hb1).fewer ?_ (.inl (.inl HF.out.a0)), keep_below hb1⟩
    rintro k ((hk | hk) | hk)
    · exact hk
    · cases hk
    · cases hk

theorem fresolve_w {w : World} {A : Nat → Prop} {f : Nat} {e gd : Int} {s : Fl} {l : List ByteArray} (h : FIn w A f e gd s.H s.L s.M) (hv : Inv s.L s.M) (al : Option Addr) (nl cl : Nat) (hl : StrsAt w al nl cl l) (hA : ∀ x, al = some x → A x.block) (hls : ∀ x ∈ l, x.size ≤ maxLen) (d : Int) (hn : s.H.length ≤ 3900) (hm : s.M.length + s.H.length ≤ 4000) (hsz : ∀ i, i < s.H.length → (atH s.H i).nm.size ≤ maxLen) :
    Calls Tryd.prog 21 #[.pointer (some ⟨f, 0, none⟩), .slice al nl cl, .int .i64 d] w fun r w' => ∃ va vb, r = .returned (.tuple #[va, vb, .int .i64 (reE l)]) ∧ w'.ownsRow w.heap.size 9 1 va (reC l d s).length (sc (reC l d s)) ∧ w'.ownsRow w.heap.size 9 1 vb (reN l s).length (sc (reN l s)) ∧
      FIn w' (fun k => (A k ∨ vb.ownBlock = some k) ∨ va.ownBlock = some k) f e gd (reS l d s).H (reS l d s).L (reS l d s).M ∧ Keep A w w' :=
  fresolve_w0 h hv al nl cl hl (fun _ => hA) hls d hn hm hsz
end Go.Proofs.YtmlkpfkeeifgeaaDoor
