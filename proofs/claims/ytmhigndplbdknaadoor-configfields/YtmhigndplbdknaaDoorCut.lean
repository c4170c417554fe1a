/-
  What strings.Cut at a blank, and config's number, do, each as a contract: the text up to its first blank and what is behind it; the number of a word, if it is written as a text writes it. Conditions: of the lengths; of number, that the library's table and error read as they are laid.
-/
import Derived.Test.YtmhigndplbdknaaDoorSmall
import Derived.Test.YtmhigndplbdknaaDoorShelf
import Derived.Lib.AtoiTie
import Derived.Lib.AtoiBound
import Derived.Lib.AtoiErrMem
namespace Go.Proofs.YtmhigndplbdknaaDoor
open Go.ChangeShapes Go.WideShapes Go.ChangeAt Go.RowKit

theorem indexByte_cutA (s : List UInt8) : Lib.indexByte s 32 = if (cutA s).2.2 = true then ((cutA s).1.length : Int) else -1 := by
  induction s with
  | nil => simp [Lib.indexByte, cutA]
  | cons b r ih =>
    by_cases hb : b = 32
    · simp [Lib.indexByte, cutA, hb]
    · simp only [Lib.indexByte, cutA, if_neg hb, ih]
      by_cases hf : (cutA r).2.2 = true
      · simp [hf, hb]
      · simp [hf, hb]

def mk (l : List UInt8) : ByteArray := ⟨l.toArray⟩
theorem mk_data (s : ByteArray) : mk s.data.toList = s := by cases s; rfl
theorem mk_list (l : List UInt8) : (mk l).data.toList = l := rfl
theorem mk_size (l : List UInt8) : (mk l).size = l.length := by
  show l.toArray.size = _
  simp
theorem mk_take (s : ByteArray) (n : Nat) : s.extract 0 n = mk (s.data.toList.take n) := by
  have h := Lib.extract_data s 0 n
  rw [← mk_data (s.extract 0 n), h]
  simp
theorem mk_drop (s : ByteArray) (n : Nat) : s.extract n s.size = mk (s.data.toList.drop n) := by
  have h := Lib.extract_data s n s.size
  rw [← mk_data (s.extract n s.size), h]
  congr 1
  apply List.take_of_length_le
  simp

set_option maxRecDepth 100000 in
theorem lcut_any (s : ByteArray) (hs : s.size < 4294967281) (w : World) :
    Calls Tryd.prog 41 #[.string s, .string ⟨#[32]⟩] w fun e w' => e = .returned (.tuple #[.string (mk (cutA s.data.toList).1), .string (mk (cutA s.data.toList).2.1), .bool (cutA s.data.toList).2.2]) ∧ ∃ n, w' = w.drewN n := by
  have hix := indexByte_cutA s.data.toList
  cases hf : (cutA s.data.toList).2.2 with
  | false =>
    rw [hf] at hix
    simp only [Bool.false_eq_true, if_false] at hix
    obtain ⟨e1, e2⟩ := cutA_no _ hf
    rw [e1, e2, mk_data]
    go_enter Tryd.func41, Tryd.ntmps41
    go_wp2_with fail
    refine (Tryd.stringslite_Index_one s 32 _).mono ?_
    rintro e w' ⟨rfl, rfl⟩
    rw [hix]
    clear hix hf e1 e2
    go_wp2
    go_ret3
    exact ⟨rfl, 0, rfl⟩
  | true =>
    rw [hf] at hix
    simp only [if_true] at hix
    have hy := cutA_yes _ hf
    generalize (cutA s.data.toList).1 = x at *
    generalize (cutA s.data.toList).2.1 = y at *
    have hsz : s.size = x.length + 1 + y.length := by
      rw [Lib.size_eq, hy]
      simp
      omega
    have e1 : s.extract 0 x.length = mk x := by rw [mk_take, hy]; simp
    have e2 : s.extract (x.length + 1) s.size = mk y := by
      rw [mk_drop, hy]
      simp
    generalize hn : x.length = n at *
    clear hy hf hn
    go_enter Tryd.func41, Tryd.ntmps41
    go_wp2_with fail
    refine (Tryd.stringslite_Index_one s 32 _).mono ?_
    rintro e w' ⟨rfl, rfl⟩
    rw [hix]
    clear hix
    have l1 : (n : Int) ≤ (s.size : Int) := by omega
    have l2 : (n : Int) + 1 ≤ (s.size : Int) := by omega
    clear hsz
    go_wp2_with fail
    go_quiet (fail)
    go_wp2
    go_ret3
    exact ⟨rfl, _, rfl⟩

theorem cut_any (s : ByteArray) (hs : s.size < 4294967281) (w : World) :
    Calls Tryd.prog 36 #[.string s, .string ⟨#[32]⟩] w fun e w' => e = .returned (.tuple #[.string (mk (cutA s.data.toList).1), .string (mk (cutA s.data.toList).2.1), .bool (cutA s.data.toList).2.2]) ∧ Below w.heap.size w w' := by
  have hc := lcut_any s hs w
  generalize mk (cutA s.data.toList).1 = x at *
  generalize mk (cutA s.data.toList).2.1 = y at *
  generalize (cutA s.data.toList).2.2 = b at *
  go_enter Tryd.func36, Tryd.ntmps36
  go_wp2_with fail
  refine hc.mono ?_
  rintro e w' ⟨rfl, n, rfl⟩
  go_wp2
  go_ret3
  exact ⟨rfl, ⟨rfl, rfl, rfl, Nat.le_refl _, fun _ _ => rfl⟩⟩

theorem below_grow (w : World) (k : Nat) (os : Array Obj) : Below w.heap.size w (Go.Sort.grow (w.drewN k) os) := by
  refine ⟨rfl, rfl, rfl, ?_, fun j hj => ?_⟩
  · show w.heap.size ≤ (w.heap ++ os).size
    simp
  · show (w.heap ++ os)[j]? = w.heap[j]?
    exact Array.getElem?_append_left hj
theorem itoa_any (n : Int) (h0 : -9223372036854775808 ≤ n) (h1 : n ≤ 9223372036854775807) (w : World) (hE : Env w) :
    Calls Tryd.prog 26 #[.int .i64 n] w fun e w' => e = .returned (.string (mk (Lib.itoa n))) ∧ Below w.heap.size w w' := by
  refine (Tryd.strconv_Itoa n h0 h1 w hE.tab).mono ?_
  rintro e w' ⟨rfl, k, os, rfl⟩
  exact ⟨rfl, below_grow w k os⟩
theorem atoi_ok (s : ByteArray) (hs : s.size ≤ 18) (v : Int) (h : Lib.atoi s.data.toList = some v) (w : World) :
    Calls Tryd.prog 43 #[.string s] w fun e w' => e = .returned (.tuple #[.int .i64 v, .nilIface]) ∧ Below w.heap.size w w' := by
  have h' : Lib.atoiAll s.data.toList = .ok v := by
    rw [Lib.atoiAll_short _ (by rw [← Lib.size_eq]; exact hs), h]
    rfl
  refine (Tryd.strconv_Atoi_ok s (by omega) v h' w).mono ?_
  rintro e w' ⟨rfl, rfl | ⟨t, rfl⟩⟩
  · exact ⟨rfl, Below.refl _ _⟩
  · exact ⟨rfl, Lib.bytesWorld_below _ _ _⟩
theorem atoi_no (s : ByteArray) (hs : s.size ≤ 18) (h : Lib.atoi s.data.toList = none) (w : World) (hE : Env w) :
    Calls Tryd.prog 43 #[.string s] w fun e w' => (∃ N, e = .returned (.tuple #[.int .i64 0, .iface 99 (.pointer (some ⟨N, 0, none⟩))])) ∧ Below w.heap.size w w' := by
  have h' : Lib.atoiAll s.data.toList = .«syntax» := by
    rw [Lib.atoiAll_short _ (by rw [← Lib.size_eq]; exact hs), h]
    rfl
  obtain ⟨te, pe, hc⟩ := hE.err
  refine (Tryd.strconv_Atoi_syntax s (by omega) h' _ w hc (.inr ⟨te, pe, rfl⟩)).mono ?_
  rintro e w' ⟨N, rfl, _, _, hb⟩
  exact ⟨⟨N, rfl⟩, hb⟩

/-- A word's number, and whether it is one. -/
def numV (s : List UInt8) : Int := (numB s).getD 0
def numO (s : List UInt8) : Bool := (numB s).isSome

set_option maxRecDepth 100000 in
theorem number_any (s : ByteArray) (hs : s.size ≤ 9223372036854775807) (w : World) (hE : Env w) :
    Calls Tryd.prog 37 #[.string s] w fun e w' => e = .returned (.tuple #[.int .i64 (numV s.data.toList), .bool (numO s.data.toList)]) ∧ Below w.heap.size w w' := by
  have htl : (mk (Lib.trimPrefix s.data.toList [45])).size = (Lib.trimPrefix s.data.toList [45]).length := mk_size _
  have htr := fun w => Tryd.strings_TrimPrefix s ⟨#[45]⟩ w
  by_cases hlen : (Lib.trimPrefix s.data.toList [45]).length ≤ 9
  · have hsz : s.size ≤ 10 := by
      rw [Lib.size_eq]
      unfold Lib.trimPrefix at hlen
      split at hlen
      · simp at hlen
        simp
        omega
      · omega
    cases ha : Lib.atoi s.data.toList with
    | none =>
      have e1 : numB s.data.toList = none := by unfold numB; rw [if_pos hlen, ha]
      have e2 : numV s.data.toList = 0 := by unfold numV; rw [e1]; rfl
      have e3 : numO s.data.toList = false := by unfold numO; rw [e1]; rfl
      rw [e2, e3]
      clear e1 e2 e3
      have hl' : ((mk (Lib.trimPrefix s.data.toList [45])).size : Int) ≤ 9 := by omega
      have HT : Hid (∀ w, Calls Tryd.prog 42 #[.string s, .string ⟨#[45]⟩] w fun e w' => e = .returned (.string (mk (Lib.trimPrefix s.data.toList [45]))) ∧ w' = w) := htr
      clear htr htl hlen hs
      go_enter Tryd.func37, Tryd.ntmps37
      go_wp2_with fail
      refine (HT.out _).mono ?_
      rintro e w' ⟨rfl, rfl⟩
      generalize mk (Lib.trimPrefix s.data.toList [45]) = t at *
      go_wp2_with fail
      refine (atoi_no s (by omega) ha _ hE).mono ?_
      rintro e w2 ⟨⟨N, rfl⟩, hb⟩
      clear HT ha hE hsz
      go_wp2
      go_ret2
      exact ⟨rfl, hb⟩
    | some v =>
      have hv := Lib.atoi_bound ha (by rw [← Lib.size_eq]; omega)
      have hl' : ((mk (Lib.trimPrefix s.data.toList [45])).size : Int) ≤ 9 := by omega
      have HT : Hid (∀ w, Calls Tryd.prog 42 #[.string s, .string ⟨#[45]⟩] w fun e w' => e = .returned (.string (mk (Lib.trimPrefix s.data.toList [45]))) ∧ w' = w) := htr
      by_cases he : Lib.itoa v = s.data.toList
      · have e1 : numB s.data.toList = some v := by unfold numB; rw [if_pos hlen, ha]; simp [he]
        have e2 : numV s.data.toList = v := by unfold numV; rw [e1]; rfl
        have e3 : numO s.data.toList = true := by unfold numO; rw [e1]; rfl
        have e4 : mk (Lib.itoa v) = s := by rw [he, mk_data]
        rw [e2, e3]
        clear e1 e2 e3 htr htl hlen hs
        go_enter Tryd.func37, Tryd.ntmps37
        go_wp2_with fail
        refine (HT.out _).mono ?_
        rintro e w' ⟨rfl, rfl⟩
        generalize mk (Lib.trimPrefix s.data.toList [45]) = t at *
        go_wp2_with fail
        refine (atoi_ok s (by omega) v ha _).mono ?_
        rintro e w2 ⟨rfl, hb⟩
        have hi := itoa_any v (by omega) (by omega) w2 (hE.below hb)
        rw [e4] at hi
        clear HT ha hsz e4 he hE
        go_wp2_with (first
          | (go_at_call 26; refine hi.mono ?_; rintro e w3 ⟨rfl, hb3⟩))
        go_ret2
        exact ⟨rfl, hb.trans (hb3.mono hb.size)⟩
      · have e1 : numB s.data.toList = none := by unfold numB; rw [if_pos hlen, ha]; simp [he]
        have e2 : numV s.data.toList = 0 := by unfold numV; rw [e1]; rfl
        have e3 : numO s.data.toList = false := by unfold numO; rw [e1]; rfl
        have e4 : ((mk (Lib.itoa v)).toList == s.toList) = false := by
          rw [Lib.toList_data, Lib.toList_data]
          simpa [mk] using he
        rw [e2, e3]
        clear e1 e2 e3 htr htl hlen hs
        go_enter Tryd.func37, Tryd.ntmps37
        go_wp2_with fail
        refine (HT.out _).mono ?_
        rintro e w' ⟨rfl, rfl⟩
        generalize mk (Lib.trimPrefix s.data.toList [45]) = t at *
        go_wp2_with fail
        refine (atoi_ok s (by omega) v ha _).mono ?_
        rintro e w2 ⟨rfl, hb⟩
        have hi := itoa_any v (by omega) (by omega) w2 (hE.below hb)
        clear HT ha hsz he hE
        generalize mk (Lib.itoa v) = t2 at *
        go_wp2_with (first
          | (go_at_call 26; refine hi.mono ?_; rintro e w3 ⟨rfl, hb3⟩))
        go_ret2
        exact ⟨rfl, hb.trans (hb3.mono hb.size)⟩
  · have e1 : numB s.data.toList = none := by unfold numB; rw [if_neg hlen]
    have e2 : numV s.data.toList = 0 := by unfold numV; rw [e1]; rfl
    have e3 : numO s.data.toList = false := by unfold numO; rw [e1]; rfl
    rw [e2, e3]
    have hl' : 9 < ((mk (Lib.trimPrefix s.data.toList [45])).size : Int) := by omega
    have HT : Hid (∀ w, Calls Tryd.prog 42 #[.string s, .string ⟨#[45]⟩] w fun e w' => e = .returned (.string (mk (Lib.trimPrefix s.data.toList [45]))) ∧ w' = w) := htr
    clear e1 e2 e3 htr htl hlen hs
    go_enter Tryd.func37, Tryd.ntmps37
    go_wp2_with fail
    refine (HT.out _).mono ?_
    rintro e w' ⟨rfl, rfl⟩
    generalize mk (Lib.trimPrefix s.data.toList [45]) = t at *
    go_wp2
    go_ret2
    exact ⟨rfl, Below.refl _ _⟩

end Go.Proofs.YtmhigndplbdknaaDoor
