/-
  The walk of the statement DiffBack. Conditions: the first argument reads as texts; no text is longer than the greatest length.
-/
import Derived.Test.YtcgnhkpclpecgaaDoorReadsW
namespace Go.Proofs.YtcgnhkpclpecgaaDoor
open Go.ChangeShapes Go.WideShapes Go.ChangeAt Go.RowKit

theorem one_hyphen {l : List ByteArray} (hl : l.length = 1) (hx : l.getD 0 ⟨#[]⟩ = nH) : l = [nH] := by
  match l, hl with
  | [x], _ =>
    simp at hx
    rw [hx]
theorem not_hyphen {l : List ByteArray} (h : ¬ l = [nH]) : ¬ l.length = 1 ∨ (l.length = 1 ∧ ¬ l.getD 0 ⟨#[]⟩ = nH) := by
  by_cases h1 : l.length = 1
  · exact .inr ⟨h1, fun e => h (one_hyphen h1 e)⟩
  · exact .inl h1

theorem read_small {t : ByteArray} (h : readE t = 0) : (readL t).length ≤ 16 ∧ ∀ s ∈ readL t, s.size ≤ 20 := by
  have hc := (read_text h).2
  refine ⟨chk_len hc, fun s hs => ?_⟩
  have hall : (readL t).all nameB = true := by
    unfold chk at hc
    by_cases h1 : 16 < (readL t).length
    · rw [if_pos h1] at hc; cases hc
    · rw [if_neg h1] at hc
      by_cases h2 : (readL t).all nameB = true
      · exact h2
      · rw [if_neg h2] at hc; cases hc
  have := (nameB_size (List.all_eq_true.1 hall s hs)).2
  omega

set_option maxHeartbeats 4000000 in
set_option maxRecDepth 100000 in
theorem back_walk (a : Option Addr) (n ca : Nat) (l : List ByteArray) (s : ByteArray) (w : World) (h : StrsAt w a n ca l) (hl : ∀ s ∈ l, s.size ≤ maxLen) (hs : s.size ≤ maxLen) :
    Calls Tryd.prog 4 #[.slice a n ca, .string s] w fun e w' => e = .returned (.bool true) ∧ Below w.heap.size w w' := by
  have H : Hid (StrsAt w a n ca l) := h
  have HL : Hid (∀ s ∈ l, s.size ≤ maxLen) := hl
  unfold maxLen at hs
  clear h hl
  go_enter Tryd.func4, Tryd.ntmps4
  go_wp2_with fail
  refine (lives_any _).mono ?_
  rintro e w1 ⟨rfl, b1⟩
  go_wp2_with fail
  refine (few_any a n ca l _ (H.out.below (Nat.le_refl _) b1) HL.out).mono ?_
  rintro e w2 ⟨v, k, x, rfl, hk, hxl, hxs, ox, q2⟩
  have b2 := b1.trans (q2.mono b1.size)
  obtain ⟨aa, cc, rfl, hx2, _⟩ := owns_strs ox
  have X2 : Hid (StrsAt w2 aa k cc x) := hx2
  have XS : Hid (∀ s ∈ x, s.size ≤ 20) := hxs
  have XL : Hid (x.length = k) := hxl
  clear b1 H HL ox hx2 q2 hxs hxl
  go_wp2_with fail
  refine (text_any aa k cc x _ X2.out hk XS.out).mono ?_
  rintro e w3 ⟨rfl, q3⟩
  have b3 := b2.trans (q3.mono b2.size)
  have X3 : Hid (StrsAt w3 aa k cc x) := X2.out.below (Nat.le_refl _) q3
  have hts : (textB x).size ≤ 1000 := by have := text_size (l := x) (by rw [XL.out]; exact hk) XS.out; omega
  clear b2 X2 q3
  go_wp2_with fail
  refine (read_any _ hts _).mono ?_
  rintro e w4 ⟨a4, n4, c4, rfl, s4, q4⟩
  have b4 := b3.trans (q4.mono b3.size)
  have X4 : Hid (StrsAt w4 aa k cc x) := X3.out.below (Nat.le_refl _) q4
  have S4 := Hid.mk' s4
  clear b3 X3 q4 s4 hts
  go_wp2_with fail
  refine (check_any aa k cc x _ X4.out (small_of XS.out)).mono ?_
  rintro e w5 ⟨rfl, q5⟩
  have b5 := b4.trans (q5.mono b4.size)
  have X5 : Hid (StrsAt w5 aa k cc x) := X4.out.below (Nat.le_refl _) q5
  have S5 := Hid.mk' (S4.out.below (Nat.le_refl _) q5)
  clear b4 X4 S4 q5
  by_cases hc : chk x = 0
  · by_cases hh : x = [nH]
    · subst hh
      have hk1 : k = 1 := XL.out.symm
      subst hk1
      obtain ⟨bb, off, rfl, _, hc0⟩ := X5.out.at_ 0 (by omega)
      rw [Nat.add_zero] at hc0
      have hc1 : w5.cell? ⟨bb, off, none⟩ = some (.string ⟨#[45]⟩) := hc0
      rw [hc]
      generalize readE (textB [nH]) = y at *
      clear hc0 hc
      have hz2 : (s.extract 0 (min (s.size : Int) 200).toNat).size ≤ 1000 := by rw [ByteArray.size_extract]; omega
      go_wp2_with fail
      generalize s.extract 0 (min (s.size : Int) 200).toNat = t at *
      refine (read_any t hz2 _).mono ?_
      rintro e wa ⟨a8, n8, c8, rfl, s8, q8⟩
      have ba := b5.trans (q8.mono b5.size)
      have S8 := Hid.mk' s8
      clear b5 q8 s8
      by_cases hf : readE t = 0
      · obtain ⟨r1, r2⟩ := read_text hf
        obtain ⟨r3, r4⟩ := read_small hf
        rw [hf]
        have HR := Hid.mk' (And.intro r1 r2)
        have HL8 : Hid (n8 ≤ 20) := Hid.mk' (by have := S8.out.hlen; omega)
        clear hf r1 r2
        go_wp2_with fail
        refine (text_any a8 n8 c8 _ _ S8.out HL8.out r4).mono ?_
        rintro e wb ⟨rfl, qb⟩
        rw [HR.out.1]
        have bb := ba.trans (qb.mono ba.size)
        have S9 := Hid.mk' (S8.out.below (Nat.le_refl _) qb)
        clear ba qb S8
        go_wp2_with fail
        refine (check_any a8 n8 c8 _ _ S9.out (small_of r4)).mono ?_
        rintro e wc ⟨rfl, qc⟩
        rw [HR.out.2]
        have bc := bb.trans (qc.mono bb.size)
        clear bb qc
        go_wp2
        go_ret
        exact ⟨rfl, bc⟩
      · have hf1 : (readE t != 0) = true := by simpa using hf
        generalize readE t = y at *
        go_wp2
        go_ret
        exact ⟨rfl, ba⟩
    · obtain ⟨t1, t2⟩ := text_read hc hh
      have hn := not_hyphen hh
      rw [XL.out] at hn
      rw [t1, hc]
      have T2 := Hid.mk' t2
      clear t1 t2 hc hh
      rcases hn with hn | ⟨hn, hx0⟩
      · have hk2 : ((k : Int) == 1) = false := by simp; omega
        have hk3 : ¬ (k : Int) = 1 := by omega
        go_wp2_with fail
        refine (same_any _ _ _ _ _ _ _ _ _ S5.out X5.out).mono ?_
        rintro e w6 ⟨rfl, q6⟩
        rw [T2.out, decide_eq_true rfl]
        have b6 := b5.trans (q6.mono b5.size)
        clear b5 q6 hn hk2 hk3
        have hz2 : (s.extract 0 (min (s.size : Int) 200).toNat).size ≤ 1000 := by rw [ByteArray.size_extract]; omega
        go_wp2_with fail
        generalize s.extract 0 (min (s.size : Int) 200).toNat = t at *
        refine (read_any t hz2 _).mono ?_
        rintro e wa ⟨a8, n8, c8, rfl, s8, q8⟩
        have ba := b6.trans (q8.mono b6.size)
        have S8 := Hid.mk' s8
        clear b6 q8 s8
        by_cases hf : readE t = 0
        · obtain ⟨r1, r2⟩ := read_text hf
          obtain ⟨r3, r4⟩ := read_small hf
          rw [hf]
          have HR := Hid.mk' (And.intro r1 r2)
          have HL8 : Hid (n8 ≤ 20) := Hid.mk' (by have := S8.out.hlen; omega)
          clear hf r1 r2
          go_wp2_with fail
          refine (text_any a8 n8 c8 _ _ S8.out HL8.out r4).mono ?_
          rintro e wb ⟨rfl, qb⟩
          rw [HR.out.1]
          have bb := ba.trans (qb.mono ba.size)
          have S9 := Hid.mk' (S8.out.below (Nat.le_refl _) qb)
          clear ba qb S8
          go_wp2_with fail
          refine (check_any a8 n8 c8 _ _ S9.out (small_of r4)).mono ?_
          rintro e wc ⟨rfl, qc⟩
          rw [HR.out.2]
          have bc := bb.trans (qc.mono bb.size)
          clear bb qc
          go_wp2
          go_ret
          exact ⟨rfl, bc⟩
        · have hf1 : (readE t != 0) = true := by simpa using hf
          generalize readE t = y at *
          go_wp2
          go_ret
          exact ⟨rfl, ba⟩
      · subst hn
        obtain ⟨bb, off, rfl, _, hc0⟩ := X5.out.at_ 0 (by omega)
        rw [Nat.add_zero] at hc0
        generalize x.getD 0 ⟨#[]⟩ = f at *
        obtain ⟨f1, f2⟩ := ne_hyphen hx0
        go_wp2_with fail
        refine (same_any _ _ _ _ _ _ _ _ _ S5.out X5.out).mono ?_
        rintro e w6 ⟨rfl, q6⟩
        rw [T2.out, decide_eq_true rfl]
        have b6 := b5.trans (q6.mono b5.size)
        clear b5 q6 hc0 hx0 f1 f2
        have hz2 : (s.extract 0 (min (s.size : Int) 200).toNat).size ≤ 1000 := by rw [ByteArray.size_extract]; omega
        go_wp2_with fail
        generalize s.extract 0 (min (s.size : Int) 200).toNat = t at *
        refine (read_any t hz2 _).mono ?_
        rintro e wa ⟨a8, n8, c8, rfl, s8, q8⟩
        have ba := b6.trans (q8.mono b6.size)
        have S8 := Hid.mk' s8
        clear b6 q8 s8
        by_cases hf : readE t = 0
        · obtain ⟨r1, r2⟩ := read_text hf
          obtain ⟨r3, r4⟩ := read_small hf
          rw [hf]
          have HR := Hid.mk' (And.intro r1 r2)
          have HL8 : Hid (n8 ≤ 20) := Hid.mk' (by have := S8.out.hlen; omega)
          clear hf r1 r2
          go_wp2_with fail
          refine (text_any a8 n8 c8 _ _ S8.out HL8.out r4).mono ?_
          rintro e wb ⟨rfl, qb⟩
          rw [HR.out.1]
          have bb := ba.trans (qb.mono ba.size)
          have S9 := Hid.mk' (S8.out.below (Nat.le_refl _) qb)
          clear ba qb S8
          go_wp2_with fail
          refine (check_any a8 n8 c8 _ _ S9.out (small_of r4)).mono ?_
          rintro e wc ⟨rfl, qc⟩
          rw [HR.out.2]
          have bc := bb.trans (qc.mono bb.size)
          clear bb qc
          go_wp2
          go_ret
          exact ⟨rfl, bc⟩
        · have hf1 : (readE t != 0) = true := by simpa using hf
          generalize readE t = y at *
          go_wp2
          go_ret
          exact ⟨rfl, ba⟩
  · have hc2 : (chk x == 0) = false := by simpa using hc
    generalize chk x = y0 at *
    generalize readE (textB x) = y at *
    have hz2 : (s.extract 0 (min (s.size : Int) 200).toNat).size ≤ 1000 := by rw [ByteArray.size_extract]; omega
    go_wp2_with fail
    generalize s.extract 0 (min (s.size : Int) 200).toNat = t at *
    refine (read_any t hz2 _).mono ?_
    rintro e wa ⟨a8, n8, c8, rfl, s8, q8⟩
    have ba := b5.trans (q8.mono b5.size)
    have S8 := Hid.mk' s8
    clear b5 q8 s8
    by_cases hf : readE t = 0
    · obtain ⟨r1, r2⟩ := read_text hf
      obtain ⟨r3, r4⟩ := read_small hf
      rw [hf]
      have HR := Hid.mk' (And.intro r1 r2)
      have HL8 : Hid (n8 ≤ 20) := Hid.mk' (by have := S8.out.hlen; omega)
      clear hf r1 r2
      go_wp2_with fail
      refine (text_any a8 n8 c8 _ _ S8.out HL8.out r4).mono ?_
      rintro e wb ⟨rfl, qb⟩
      rw [HR.out.1]
      have bb := ba.trans (qb.mono ba.size)
      have S9 := Hid.mk' (S8.out.below (Nat.le_refl _) qb)
      clear ba qb S8
      go_wp2_with fail
      refine (check_any a8 n8 c8 _ _ S9.out (small_of r4)).mono ?_
      rintro e wc ⟨rfl, qc⟩
      rw [HR.out.2]
      have bc := bb.trans (qc.mono bb.size)
      clear bb qc
      go_wp2
      go_ret
      exact ⟨rfl, bc⟩
    · have hf1 : (readE t != 0) = true := by simpa using hf
      generalize readE t = y at *
      go_wp2
      go_ret
      exact ⟨rfl, ba⟩

end Go.Proofs.YtcgnhkpclpecgaaDoor
