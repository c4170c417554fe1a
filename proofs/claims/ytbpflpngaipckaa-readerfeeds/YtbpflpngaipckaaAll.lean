/-
  What All does, the program's and the document's own, at a slice that reads as a list of bytes: what the plain function allF says; nothing that was there is turned. Conditions: the slice reads as those bytes; there are at most 2000.
-/
import Derived.Test.YtbpflpngaipckaaRead
namespace Go.Proofs.Ytbpflpngaipckaa
open Go.ChangeShapes Go.WideShapes Go.ChangeAt Go.RowKit

theorem Try.info48 : (Try.prog.info? 48).map (fun i => (i.zero, i.size, i.bytes)) = some (some (.agg #[.int .i64 0, .string ⟨#[]⟩]), 2, 24) := by kernel_rfl

def allB (bs : List UInt8) (c : Int) : List Fr × Nat × Int := allF (bs.length + 1) bs c

/-- So far: behind n bytes the frames l; what is left is told by so many rounds more. -/
def SoFar (bs : List UInt8) (c : Int) (n : Nat) (l : List Fr) (fu : Nat) : Prop :=
  allB bs c = (l ++ (allF fu (bs.drop n) c).1, n + (allF fu (bs.drop n) c).2.1, (allF fu (bs.drop n) c).2.2)

theorem SoFar.start (bs : List UInt8) (c : Int) : SoFar bs c 0 [] (bs.length + 1) := by simp [SoFar, allB]
theorem SoFar.form {bs : List UInt8} {c : Int} {n : Nat} {l : List Fr} {fu : Nat} (h : SoFar bs c n l (fu + 1)) (e : (readB (bs.drop n) c).2.2 = 2) : allB bs c = (l, n, 0) := by
  rw [h, allF_form e]
  simp
theorem SoFar.bad {bs : List UInt8} {c : Int} {n : Nat} {l : List Fr} {fu : Nat} (h : SoFar bs c n l (fu + 1)) (e : (readB (bs.drop n) c).2.2 ≠ 2) (e0 : (readB (bs.drop n) c).2.2 ≠ 0) : allB bs c = (l, n, (readB (bs.drop n) c).2.2) := by
  rw [h, allF_bad e e0]
  simp
theorem SoFar.step {bs : List UInt8} {c : Int} {n m : Nat} {l : List Fr} {fu : Nat} (h : SoFar bs c n l (fu + 1)) (e0 : (readB (bs.drop n) c).2.2 = 0) (hm : (readB (bs.drop n) c).2.1 = m) : SoFar bs c (n + m) (l ++ [(readB (bs.drop n) c).1]) fu := by
  unfold SoFar
  rw [h, allF_step e0, hm]
  simp [List.drop_drop, Nat.add_assoc]

theorem BytesAt.dropNe {w : World} {a : Option Addr} {len cap : Nat} {bs : List UInt8} (h : BytesAt w a len cap bs) {n : Nat} (hn : n ≤ len) (hc : ¬ cap = n) : BytesAt w (Option.map (fun x => x.add n) a) (len - n) (cap - n) (bs.drop n) := by
  have := h.drop hn
  rw [if_neg hc, Nat.mul_one] at this
  exact this

theorem readB_nil (c : Int) : readB [] c = (Fr.zero, 0, 2) := by
  rw [readB_head (by rw [headB_short (by simp)]; decide), headB_short (by simp)]

theorem all_ret {v : Value} {n : Nat} {bs : List UInt8} {c e : Int} {l : List Fr} {w w' : World} (h : allB bs c = (l, n, e)) (ho : w'.ownsRow w.heap.size 48 2 v l.length (fc l)) (hb : Below w.heap.size w w') :
    ∃ v', Ending.returned (.tuple #[v, .int .i64 n, .int .i64 e]) = Ending.returned (.tuple #[v', .int .i64 (allB bs c).2.1, .int .i64 (allB bs c).2.2]) ∧ w'.ownsRow w.heap.size 48 2 v' (allB bs c).1.length (fc (allB bs c).1) ∧ Below w.heap.size w w' := by
  rw [h]
  exact ⟨v, rfl, ho, hb⟩

set_option maxHeartbeats 400000 in
set_option maxRecDepth 100000 in
theorem all_any (a : Option Addr) (len cap : Nat) (bs : List UInt8) (c : Int) (w : World) (h : BytesAt w a len cap bs) (h2k : len ≤ 2000) :
    Calls Try.prog 25 #[.slice a len cap, .int .i64 c] w fun e w' => ∃ v, e = .returned (.tuple #[v, .int .i64 (allB bs c).2.1, .int .i64 (allB bs c).2.2]) ∧
      w'.ownsRow w.heap.size 48 2 v (allB bs c).1.length (fc (allB bs c).1) ∧ Below w.heap.size w w' := by
  have hcap := h.hcap
  have hle := h.hle
  have hl := h.hlen
  unfold maxLen at hcap
  obtain ⟨i0, hi, hz0, hz1, hz2⟩ := info_parts Try.info48
  have H : Hid (BytesAt w a len cap bs) := h
  have HL : Hid (bs.length = len) := hl
  clear h hl
  go_enter Try.func25, Try.ntmps25
  go_wp2
  go_loopw [7, 8] (fun v i wr => ∃ (n fu : Nat) (l : List Fr), n ≤ len ∧ i = .int .i64 n ∧ wr.ownsRow w.heap.size 48 2 v l.length (fc l) ∧ Below w.heap.size w wr ∧ len < n + fu ∧ l.length ≤ n ∧ SoFar bs c n l fu)
    (fun _ i _ => (len - (intOf i).toNat))
  case atStart => exact ⟨0, len + 1, [], Nat.zero_le _, rfl, World.ownsRow_nil _ _ _ _, Below.refl _ _, by omega, Nat.le_refl _, by rw [← HL.out]; exact SoFar.start bs c⟩
  case round =>
    obtain ⟨n, fu, l, hn, rfl, hown, hbel, hfu, hll, hsf⟩ := hrel
    obtain ⟨fu, rfl⟩ : ∃ f, fu = f + 1 := ⟨fu - 1, by omega⟩
    have SF : Hid (SoFar bs c n l (fu + 1)) := hsf
    clear hsf
    by_cases hcn : cap = n
    · obtain rfl : len = cap := by omega
      subst hcn
      go_wp2_with fail
      refine (read_any _ _ _ [] c _ (BytesAt.nil _ _ _ (Nat.zero_le _))).mono ?_
      rintro e w1 ⟨rfl, hb1⟩
      rw [readB_nil]
      go_wp2
      go_ret3
      refine all_ret (SF.out.form (by rw [List.drop_of_length_le (by have := HL.out; omega), readB_nil])) ((owns_below hown hb1).alloc _) ?_
      exact (hbel.trans (hb1.mono hbel.size)).alloc (Nat.le_trans hbel.size hb1.size) _
    · have hB : BytesAt wr (Option.map (fun x => x.add n) a) (len - n) (cap - n) (bs.drop n) := (H.out.below hbel).dropNe hn hcn
      have hbd := readB_bd (bs.drop n) c
      have hdl : (bs.drop n).length = len - n := by rw [List.length_drop, HL.out]
      obtain ⟨E, hE⟩ : ∃ E, (readB (bs.drop n) c).2.2 = E := ⟨_, rfl⟩
      obtain ⟨m, hm⟩ : ∃ m : Nat, (readB (bs.drop n) c).2.1 = m := ⟨(readB (bs.drop n) c).2.1.toNat, by omega⟩
      obtain ⟨K, hK⟩ : ∃ K, (readB (bs.drop n) c).1 = K := ⟨_, rfl⟩
      rw [hE, hm, hdl] at hbd
      obtain ⟨b1, b2, b3, b4, b5⟩ := hbd
      clear b3
      by_cases h2 : E = 2
      · subst h2
        go_wp2_with fail
        refine (read_any _ _ _ _ c _ hB).mono ?_
        rintro e w1 ⟨rfl, hb1⟩
        rw [hE, hm, hK]
        clear b1 b2 b4 b5 hdl hB
        go_wp2
        go_ret3
        refine all_ret (SF.out.form hE) ((owns_below hown hb1).alloc _) ?_
        exact (hbel.trans (hb1.mono hbel.size)).alloc (Nat.le_trans hbel.size hb1.size) _
      · by_cases h0 : E = 0
        · subst h0
          have b6 := b5 rfl
          have STEP := SF.out.step hE hm
          rw [hK] at STEP
          have ST : Hid (SoFar bs c (n + m) (l ++ [K]) fu) := STEP
          clear b1 b2 b5 hdl STEP h2
          go_wp2_with fail
          refine (read_any _ _ _ _ c _ hB).mono ?_
          rintro e w1 ⟨rfl, hb1⟩
          rw [hE, hm, hK]
          have hown1 := owns_below hown hb1
          have hzz : w.heap.size ≤ w1.heap.size := Nat.le_trans hbel.size hb1.size
          have hbel1 : Below w.heap.size w w1 := hbel.trans (hb1.mono hbel.size)
          clear hB hown hb1 hE hm hK hbel
          go_wp2_with (at_builtin; refine wpList_append_own _ rfl _ _ 30 rfl w.heap.size 48 i0 (.agg #[.int .i64 0, .string ⟨#[]⟩]) 2 24 Try.underlying30 hi hz0 hz1 hz2 rfl (by decide) _ l.length _ rfl ((hown1.alloc _).alloc _) ⟨w1.heap.size + 1, 0, none⟩ 1 1 [.int .i64 K.k, .string K.s] rfl rfl ?c1 ?c2 ?c3 ?c4 ?c5 ?_)
          case c1 =>
            intro j u hj
            match j, hj with
            | 0, hj => simp at hj; subst hj; simp [Addr.add]
            | 1, hj => simp at hj; subst hj; simp [Addr.add]
            | _ + 2, hj => simp at hj
          case c2 => intro u hu; simp at hu; rcases hu with rfl | rfl <;> rfl
          case c3 => unfold maxLen; omega
          case c4 => omega
          case c5 => simp; omega
          intro v3 w3 hown3 hgrow3 _
          have hbel3 : Below w.heap.size w w3 := ((hbel1.alloc hzz _).alloc (by simp; omega) _).grown hgrow3 (by simp; omega) (fun j hj => (hown1.lt j hj).1)
          have hown4 : w3.ownsRow w.heap.size 48 2 v3 (l ++ [K]).length (fc (l ++ [K])) := by rw [fc_append, List.length_append]; exact hown3
          clear hown3 hgrow3 hown1 hbel1
          go_wp2
          go_roundw
          case rel => exact ⟨n + m, fu, l ++ [K], by omega, by go_num, hown4, hbel3, by omega, by simp; omega, ST.out⟩
          case measure => simp [intOf]; omega
        · have h2' : (E == 2) = false := by simpa using h2
          have h0' : (E != 0) = true := by simpa using h0
          go_wp2_with fail
          refine (read_any _ _ _ _ c _ hB).mono ?_
          rintro e w1 ⟨rfl, hb1⟩
          rw [hE, hm, hK]
          have RET := all_ret (v := u7) (by rw [← hE] at h2 h0; exact SF.out.bad h2 h0) (((owns_below hown hb1).alloc (.cells #[.int .i64 K.k, .string K.s] 48))) ((hbel.trans (hb1.mono hbel.size)).alloc (Nat.le_trans hbel.size hb1.size) _)
          rw [hE] at RET
          clear b1 b2 b4 b5 hdl hB h2 h0 hE hm hK
          go_wp2
          go_ret3
          exact RET

set_option maxHeartbeats 400000 in
set_option maxRecDepth 100000 in
theorem rall_any (a : Option Addr) (len cap : Nat) (bs : List UInt8) (c : Int) (w : World) (h : BytesAt w a len cap bs) (h2k : len ≤ 2000) :
    Calls Try.prog 26 #[.slice a len cap, .int .i64 c] w fun e w' => ∃ v, e = .returned (.tuple #[v, .int .i64 (allB bs c).2.1, .int .i64 (allB bs c).2.2]) ∧
      w'.ownsRow w.heap.size 48 2 v (allB bs c).1.length (fc (allB bs c).1) ∧ Below w.heap.size w w' := by
  have hcap := h.hcap
  have hle := h.hle
  have hl := h.hlen
  unfold maxLen at hcap
  obtain ⟨i0, hi, hz0, hz1, hz2⟩ := info_parts Try.info48
  have H : Hid (BytesAt w a len cap bs) := h
  have HL : Hid (bs.length = len) := hl
  clear h hl
  go_enter Try.func26, Try.ntmps26
  go_wp2
  go_loopw [7, 8] (fun v i wr => ∃ (n fu : Nat) (l : List Fr), n ≤ len ∧ i = .int .i64 n ∧ wr.ownsRow w.heap.size 48 2 v l.length (fc l) ∧ Below w.heap.size w wr ∧ len < n + fu ∧ l.length ≤ n ∧ SoFar bs c n l fu)
    (fun _ i _ => (len - (intOf i).toNat))
  case atStart => exact ⟨0, len + 1, [], Nat.zero_le _, rfl, World.ownsRow_nil _ _ _ _, Below.refl _ _, by omega, Nat.le_refl _, by rw [← HL.out]; exact SoFar.start bs c⟩
  case round =>
    obtain ⟨n, fu, l, hn, rfl, hown, hbel, hfu, hll, hsf⟩ := hrel
    obtain ⟨fu, rfl⟩ : ∃ f, fu = f + 1 := ⟨fu - 1, by omega⟩
    have SF : Hid (SoFar bs c n l (fu + 1)) := hsf
    clear hsf
    by_cases hcn : cap = n
    · obtain rfl : len = cap := by omega
      subst hcn
      go_wp2_with fail
      refine (rread_any _ _ _ [] c _ (BytesAt.nil _ _ _ (Nat.zero_le _))).mono ?_
      rintro e w1 ⟨rfl, hb1⟩
      rw [readB_nil]
      go_wp2
      go_ret3
      refine all_ret (SF.out.form (by rw [List.drop_of_length_le (by have := HL.out; omega), readB_nil])) ((owns_below hown hb1).alloc _) ?_
      exact (hbel.trans (hb1.mono hbel.size)).alloc (Nat.le_trans hbel.size hb1.size) _
    · have hB : BytesAt wr (Option.map (fun x => x.add n) a) (len - n) (cap - n) (bs.drop n) := (H.out.below hbel).dropNe hn hcn
      have hbd := readB_bd (bs.drop n) c
      have hdl : (bs.drop n).length = len - n := by rw [List.length_drop, HL.out]
      obtain ⟨E, hE⟩ : ∃ E, (readB (bs.drop n) c).2.2 = E := ⟨_, rfl⟩
      obtain ⟨m, hm⟩ : ∃ m : Nat, (readB (bs.drop n) c).2.1 = m := ⟨(readB (bs.drop n) c).2.1.toNat, by omega⟩
      obtain ⟨K, hK⟩ : ∃ K, (readB (bs.drop n) c).1 = K := ⟨_, rfl⟩
      rw [hE, hm, hdl] at hbd
      obtain ⟨b1, b2, b3, b4, b5⟩ := hbd
      clear b3
      by_cases h2 : E = 2
      · subst h2
        go_wp2_with fail
        refine (rread_any _ _ _ _ c _ hB).mono ?_
        rintro e w1 ⟨rfl, hb1⟩
        rw [hE, hm, hK]
        clear b1 b2 b4 b5 hdl hB
        go_wp2
        go_ret3
        refine all_ret (SF.out.form hE) ((owns_below hown hb1).alloc _) ?_
        exact (hbel.trans (hb1.mono hbel.size)).alloc (Nat.le_trans hbel.size hb1.size) _
      · by_cases h0 : E = 0
        · subst h0
          have b6 := b5 rfl
          have STEP := SF.out.step hE hm
          rw [hK] at STEP
          have ST : Hid (SoFar bs c (n + m) (l ++ [K]) fu) := STEP
          clear b1 b2 b5 hdl STEP h2
          go_wp2_with fail
          refine (rread_any _ _ _ _ c _ hB).mono ?_
          rintro e w1 ⟨rfl, hb1⟩
          rw [hE, hm, hK]
          have hown1 := owns_below hown hb1
          have hzz : w.heap.size ≤ w1.heap.size := Nat.le_trans hbel.size hb1.size
          have hbel1 : Below w.heap.size w w1 := hbel.trans (hb1.mono hbel.size)
          clear hB hown hb1 hE hm hK hbel
          go_wp2_with (at_builtin; refine wpList_append_own _ rfl _ _ 30 rfl w.heap.size 48 i0 (.agg #[.int .i64 0, .string ⟨#[]⟩]) 2 24 Try.underlying30 hi hz0 hz1 hz2 rfl (by decide) _ l.length _ rfl ((hown1.alloc _).alloc _) ⟨w1.heap.size + 1, 0, none⟩ 1 1 [.int .i64 K.k, .string K.s] rfl rfl ?c1 ?c2 ?c3 ?c4 ?c5 ?_)
          case c1 =>
            intro j u hj
            match j, hj with
            | 0, hj => simp at hj; subst hj; simp [Addr.add]
            | 1, hj => simp at hj; subst hj; simp [Addr.add]
            | _ + 2, hj => simp at hj
          case c2 => intro u hu; simp at hu; rcases hu with rfl | rfl <;> rfl
          case c3 => unfold maxLen; omega
          case c4 => omega
          case c5 => simp; omega
          intro v3 w3 hown3 hgrow3 _
          have hbel3 : Below w.heap.size w w3 := ((hbel1.alloc hzz _).alloc (by simp; omega) _).grown hgrow3 (by simp; omega) (fun j hj => (hown1.lt j hj).1)
          have hown4 : w3.ownsRow w.heap.size 48 2 v3 (l ++ [K]).length (fc (l ++ [K])) := by rw [fc_append, List.length_append]; exact hown3
          clear hown3 hgrow3 hown1 hbel1
          go_wp2
          go_roundw
          case rel => exact ⟨n + m, fu, l ++ [K], by omega, by go_num, hown4, hbel3, by omega, by simp; omega, ST.out⟩
          case measure => simp [intOf]; omega
        · have h2' : (E == 2) = false := by simpa using h2
          have h0' : (E != 0) = true := by simpa using h0
          go_wp2_with fail
          refine (rread_any _ _ _ _ c _ hB).mono ?_
          rintro e w1 ⟨rfl, hb1⟩
          rw [hE, hm, hK]
          have RET := all_ret (v := u7) (by rw [← hE] at h2 h0; exact SF.out.bad h2 h0) (((owns_below hown hb1).alloc (.cells #[.int .i64 K.k, .string K.s] 48))) ((hbel.trans (hb1.mono hbel.size)).alloc (Nat.le_trans hbel.size hb1.size) _)
          rw [hE] at RET
          clear b1 b2 b4 b5 hdl hB h2 h0 hE hm hK
          go_wp2
          go_ret3
          exact RET

end Go.Proofs.Ytbpflpngaipckaa
