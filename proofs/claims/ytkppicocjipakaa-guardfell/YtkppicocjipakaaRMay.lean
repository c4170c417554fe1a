/-
  The document's own May, Spare and First, each as a contract: they tell what the program's tell. Conditions: a slice reads as the listed ints, at most 20; the connections of a host lie within 1000.
-/
import Derived.Test.YtkppicocjipakaaRef
import Derived.Test.YtkppicocjipakaaTurns
import Derived.Lib.SmallJoins
namespace Go.Proofs.Ytkppicocjipakaa
open Go.ChangeShapes Go.WideShapes Go.ChangeAt Go.RowKit Go.Joins

theorem grown_of {w w' : World} (h : Below w.heap.size w w') : w.grownBy w' none := ⟨h.os, h.tape, h.output, h.size, fun k hk _ => h.block k hk⟩
theorem owns_below {w w' : World} {base n : Nat} {v : Value} {xs : List Value} (h : w.ownsRow base 3 1 v n xs) (hb : Below w.heap.size w w') : w'.ownsRow base 3 1 v n xs := by
  refine h.kept (grown_of hb) ?_
  cases hv : v.ownBlock with
  | none => exact .inl rfl
  | some x => exact .inr (by simp)

theorem without_rm {zs : List Int} {i e : Int} (h20 : zs.length ≤ 20) (he : e ≤ 1000) : withI zs i e = (act (rm zs i) : Nat) * pos e := by
  have h1 := rm_act zs i
  have h2 := act_le zs
  have h3 : (act zs : Int) - (one zs i : Nat) = (act (rm zs i) : Nat) := by omega
  unfold withI
  rw [h3, capI_small (by omega) (by omega) he]
theorem cap_pos {zs : List Int} {e : Int} (h20 : zs.length ≤ 20) (he : e ≤ 1000) : capI (act zs : Nat) e = (act zs : Nat) * pos e := by
  have h2 := act_le zs
  rw [capI_small (by omega) (by omega) he]

set_option maxRecDepth 100000 in
theorem rmay_any (a : Option Addr) (len cap : Nat) (zs : List Int) (i e g : Int) (he : e ≤ 1000) (h20 : len ≤ 20) (w : World) (hr : IntsAt w a len cap zs) :
    Calls Try.prog 16 #[.slice a len cap, .int .i64 i, .int .i64 e, .int .i64 g] w fun r w' => r = .returned (.bool (mayB zs i e g)) ∧ Below w.heap.size w w' := by
  have HR : Hid _ := hr
  have HE : Hid _ := he
  obtain ⟨hz, hle, hcap, hc⟩ := hr
  unfold maxLen at hcap
  by_cases hi : 0 ≤ i ∧ i < (len : Int)
  · obtain ⟨h0, h1⟩ := hi
    obtain ⟨k, rfl⟩ : ∃ k : Nat, i = k := ⟨i.toNat, by omega⟩
    obtain ⟨b, off, rfl, _, hcell⟩ := hc k (by omega)
    obtain ⟨x, hx⟩ : ∃ x, zs.getD k 0 = x := ⟨_, rfl⟩
    rw [hx] at hcell
    by_cases hx0 : x = 0
    · subst hx0
      have HM : Hid (mayB zs (k : Int) e g = decide (g ≤ (act (rm zs (k : Int)) : Nat) * pos e)) := by
        show mayB zs (k : Int) e g = _
        rw [mayB_act ⟨h0, by omega⟩ (by simpa using hx), ← without_rm (by omega) he]
        unfold withI one
        rw [has_iff.2 ⟨h0, by omega⟩]
        have hx' : zs.getD (k : Int).toNat 0 = 0 := by simpa using hx
        rw [hx']
        rfl
      have hw := rwithout_any _ len cap zs (k : Int) e HE.out h20 w HR.out
      clear hc hx hz he
      generalize ((act (rm zs (k : Int)) : Nat) : Int) * pos e = M at *
      go_enter Try.func16, Try.ntmps16
      go_wp2_with (go_at_call 18; refine hw.mono ?_; rintro e1 w1 ⟨rfl, hb⟩)
      go_ret
      exact ⟨ret_bool HM.out.symm, hb⟩
    · have HM : Hid (mayB zs (k : Int) e g = true) := mayB_other ⟨h0, by omega⟩ (by simpa using (by rw [hx]; exact hx0 : ¬ zs.getD k 0 = 0))
      clear hc hx hz he
      go_enter Try.func16, Try.ntmps16
      go_wp2
      go_ret
      exact ⟨ret_bool HM.out.symm, Below.refl _ _⟩
  · have HM : Hid (mayB zs i e g = false) := mayB_out (by omega)
    clear hc hz he
    by_cases h0 : i < 0
    · go_enter Try.func16, Try.ntmps16
      go_wp2
      go_ret
      exact ⟨ret_bool HM.out.symm, Below.refl _ _⟩
    · have h1 : (len : Int) ≤ i := by omega
      clear hi
      go_enter Try.func16, Try.ntmps16
      go_wp2
      go_ret
      exact ⟨ret_bool HM.out.symm, Below.refl _ _⟩

set_option maxHeartbeats 1000000 in
set_option maxRecDepth 100000 in
theorem rspare_any (a : Option Addr) (len cap : Nat) (zs : List Int) (e g : Int) (he : e ≤ 1000) (h20 : len ≤ 20) (w : World) (hr : IntsAt w a len cap zs) (hn : a = none → len = 0 ∧ cap = 0) :
    Calls Try.prog 20 #[.slice a len cap, .int .i64 e, .int .i64 g] w fun r w' => r = .returned (.int .i64 ((act zs : Int) - (down (act zs) e g : Nat))) ∧ Below w.heap.size w w' := by
  have hz := hr.hlen
  have HZ : Hid (zs.length = len) := hz
  have HR : Hid _ := hr
  have HN : Hid _ := hn
  have HE : Hid _ := he
  obtain ⟨D, hD⟩ : ∃ D, (act zs : Int) - (down (act zs) e g : Nat) = D := ⟨_, rfl⟩
  rw [hD]
  have HD : Hid (∀ L n, Sp zs L len n e g → (n : Int) = D) := fun L n h => by rw [← hD]; exact h.end_ HZ.out
  clear hr hn he hD hz
  go_enter Try.func20, Try.ntmps20
  go_wp2_with (at_builtin; refine wpList_ints _ rfl _ _ rfl w.heap.size _ 0 [] zs zs rfl (World.ownsRow_nil _ _ _ _) a len cap rfl HR.out HN.out (by omega) (Nat.le_refl _) rfl len (by omega) ?_)
  intro v1 w1 hown1 hgr1
  have hb1 : Below w.heap.size w w1 := (Below.refl _ w).grown hgr1 (Nat.le_refl _) (fun j hj => by simp [Value.ownBlock] at hj)
  obtain ⟨a5, cap5, rfl, hD5, -⟩ := owns_ints hown1
  have hle5 := hD5.hle
  have hcap5 := hD5.hcap
  unfold maxLen at hcap5
  clear hgr1 hD5 HR HN
  go_wp2
  go_loopw [8, 9] (fun vn vi wr => ∃ (k n : Nat) (L : List Int), k ≤ len ∧ n ≤ k ∧ vi = .int .i64 k ∧ vn = .int .i64 n ∧ Hid (Sp zs L k n e g) ∧ wr.ownsRow w.heap.size 3 1 (.slice a5 len cap5) len (ic L) ∧ Below w.heap.size w wr) (fun _ vi _ => len - (intOf vi).toNat)
  case atStart => exact ⟨0, 0, zs, Nat.zero_le _, Nat.le_refl _, rfl, rfl, Sp.start zs e g, hown1, hb1⟩
  case round =>
    clear hown1 hb1
    obtain ⟨k, n, L, hk, hnk, rfl, rfl, hsp, hown, hbel⟩ := hrel
    by_cases hlt : k < len
    · obtain ⟨g5, cp, he5⟩ := ownsRow_form hown (by omega)
      cases he5
      obtain ⟨a6, cap6, he6, hI, -⟩ := owns_ints hown
      cases he6
      have hkl : k < L.length := by rw [hI.hlen]; exact hlt
      have hrm := rmay_any _ len cap5 L (k : Int) e g HE.out h20 wr hI
      obtain ⟨x, hx⟩ : ∃ x, L.getD k 0 = x := ⟨_, rfl⟩
      obtain ⟨m, hm⟩ : ∃ m, mayB L (k : Int) e g = m := ⟨_, rfl⟩
      rw [hm] at hrm
      clear hI
      go_wp2_with fail
      refine hrm.mono ?_
      rintro e1 w2 ⟨rfl, hb2⟩
      have hown2 := owns_below hown hb2
      have hbel2 : Below w.heap.size w w2 := hbel.trans (hb2.mono hbel.size)
      have hcell : w2.cell? ⟨g5, k, none⟩ = some (.int .i64 x) := by
        rw [hown2.cellAt k (by omega), ← hx]
        simp [ic, List.getD, hkl]
      have hfz := hown2.frozenAt k
      have hg5 := (hown2.lt g5 rfl).1
      have HO : Hid (w2.ownsRow w.heap.size 3 1 (.slice (some ⟨g5, 0, none⟩) len cap5) len (ic L)) := hown2
      have HB : Hid _ := hbel2
      clear hown hown2 hb2 hbel hbel2 hrm
      by_cases hx0 : x = 0
      · subst hx0
        cases m with
        | true =>
          have HS : Hid _ := hsp.out.leave hkl hx hm
          clear hsp hx hm hkl
          go_wp2
          go_roundw
          case rel =>
            have h5 := (HO.out.stored k (.int .i64 1)).1
            rw [ic_set] at h5
            exact ⟨k + 1, n + 1, _, by omega, by omega, by go_num, by go_num, HS, h5, HB.out.setCell hg5 _⟩
          case measure => simp [intOf]; omega
        | false =>
          have HS : Hid _ := hsp.out.stay hkl (.inr hm)
          clear hsp hx hm hkl
          go_wp2
          go_roundw
          case rel => exact ⟨k + 1, n, _, by omega, by omega, by go_num, by go_num, HS, HO.out, HB.out⟩
          case measure => simp [intOf]; omega
      · have HS : Hid _ := hsp.out.stay hkl (.inl (by rw [hx]; exact hx0))
        clear hsp hx hm hkl
        go_wp2
        go_roundw
        case rel => exact ⟨k + 1, n, _, by omega, by omega, by go_num, by go_num, HS, HO.out, HB.out⟩
        case measure => simp [intOf]; omega
    · obtain rfl : k = len := by omega
      have h2 : Hid ((n : Int) = D) := HD.out _ _ hsp.out
      clear hsp hown
      go_wp2
      go_ret
      exact ⟨ret_int h2.out, hbel⟩

set_option maxHeartbeats 1000000 in
set_option maxRecDepth 100000 in
theorem rfirst_any (a : Option Addr) (len cap : Nat) (zs : List Int) (a' : Option Addr) (len' cap' : Nat) (l : List Int) (e g : Int) (he : e ≤ 1000) (h20 : len ≤ 20) (w : World) (hr : IntsAt w a len cap zs) (hr' : IntsAt w a' len' cap' l) :
    Calls Try.prog 12 #[.slice a len cap, .slice a' len' cap', .int .i64 e, .int .i64 g] w fun r w' => r = .returned (.tuple #[.int .i64 (firstI zs e g l).1, .bool (firstI zs e g l).2]) ∧ Below w.heap.size w w' := by
  have HL : Hid _ := hr
  have HR : Hid _ := hr'
  have HE : Hid _ := he
  have hl' := hr'.hlen
  have hle' := hr'.hle
  have hcap' := hr'.hcap
  unfold maxLen at hcap'
  obtain ⟨P, hP⟩ : ∃ P, firstI zs e g l = P := ⟨_, rfl⟩
  have HP : Hid (firstI zs e g (l.drop 0) = P) := hP
  rw [hP]
  clear hP hr hr' he
  obtain ⟨p1, p2⟩ := P
  go_enter Try.func12, Try.ntmps12
  go_wp2
  go_loopw [10] (fun v wr => ∃ k : Nat, k ≤ len' ∧ v = .int .i64 k ∧ Hid (firstI zs e g (l.drop k) = (p1, p2)) ∧ Below w.heap.size w wr) (fun v _ => len' - (intOf v).toNat)
  case atStart => exact ⟨0, Nat.zero_le _, rfl, HP, Below.refl _ _⟩
  case round =>
    clear HP
    obtain ⟨k, hk, rfl, hp, hbel⟩ := hrel
    by_cases hlt : k < len'
    · have hR := HR.out.below hbel
      obtain ⟨b, off, rfl, hbb, hcell⟩ := hR.at_ k hlt
      have hs := first_step zs e g l k (by omega)
      rw [hp.out] at hs
      obtain ⟨x, hx⟩ : ∃ x, l.getD k 0 = x := ⟨_, rfl⟩
      rw [hx] at hcell hs
      have ht := rmay_any a len cap zs x e g HE.out h20 wr (HL.out.below hbel)
      cases hm : mayB zs x e g with
      | true =>
        rw [hm] at hs ht
        simp at hs
        obtain ⟨rfl, rfl⟩ := hs
        clear hp hx hm hR
        go_wp2_with fail
        refine ht.mono ?_
        rintro e1 w2 ⟨rfl, hb2⟩
        have hcell2 := (hb2.cell (p := ⟨b, off + k, none⟩) hbb).trans hcell
        have HB : Hid _ := hbel.trans (hb2.mono hbel.size)
        clear hcell hb2 hbel ht
        go_wp2
        go_ret2
        exact ⟨rfl, HB.out⟩
      | false =>
        rw [hm] at hs ht
        have hs2 : firstI zs e g (l.drop (k + 1)) = (p1, p2) := by simpa using hs.symm
        have HS : Hid _ := hs2
        clear hp hx hm hs hs2 hR
        go_wp2_with fail
        refine ht.mono ?_
        rintro e1 w2 ⟨rfl, hb2⟩
        have HB : Hid _ := hbel.trans (hb2.mono hbel.size)
        clear hcell hb2 hbel ht
        go_wp2
        go_roundw
        case rel => exact ⟨k + 1, by omega, by go_num, HS, HB.out⟩
        case measure => simp [intOf]; omega
    · have e2 : l.drop k = [] := List.drop_eq_nil_of_le (by omega)
      have h2 := hp.out
      rw [e2] at h2
      simp [firstI] at h2
      obtain ⟨rfl, rfl⟩ := h2
      clear e2 hp
      go_wp2
      go_ret2
      exact ⟨rfl, hbel⟩

end Go.Proofs.Ytkppicocjipakaa
