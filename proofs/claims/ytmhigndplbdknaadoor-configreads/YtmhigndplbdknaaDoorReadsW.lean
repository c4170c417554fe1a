/-
  The walk of ConfigReads: it returns true and turns nothing that was there. Condition: what the program's text lays reads as it is laid.
-/
import Derived.Test.YtmhigndplbdknaaDoorBackW
import Derived.Test.YtmhigndplbdknaaDoorRRead
namespace Go.Proofs.YtmhigndplbdknaaDoor
open Go.ChangeShapes Go.WideShapes Go.ChangeAt Go.RowKit

theorem rread_b (T : ByteArray) (hT : T.size ≤ 250) (w : World) :
    Calls Tryd.prog 20 #[.string T] w fun e w' => e = .returned (.tuple #[.agg (cc (rdL T.data.toList)), .int .i64 (rdE T.data.toList)]) ∧ Below w.heap.size w w' := by
  have := rread_any T.data.toList (by rw [← Lib.size_eq]; exact hT) w
  rwa [mk_data] at this

set_option maxRecDepth 100000 in
set_option maxHeartbeats 2000000 in
theorem reads_any (s : ByteArray) (hs : s.size ≤ maxLen) (w : World) (hE : Env w) :
    Calls Tryd.prog 4 #[.string s] w fun e w' => e = .returned (.bool true) ∧ Below w.heap.size w w' := by
  have hsz : (s.extract 0 (min (s.size : Int) 250).toNat).size ≤ 250 := by rw [ByteArray.size_extract]; omega
  obtain ⟨T, hT⟩ : ∃ T, s.extract 0 (min (s.size : Int) 250).toNat = T := ⟨_, rfl⟩
  rw [hT] at hsz
  unfold maxLen at hs
  have HE := Hid.mk' hE
  have HT := Hid.mk' hsz
  clear hE hsz
  go_enter Tryd.func4, Tryd.ntmps4
  go_wp2_with fail
  refine (lives_any _ HE.out).mono ?_
  rintro e w1 ⟨rfl, hb1⟩
  have HB1 := Hid.mk' hb1
  clear hb1
  go_wp2_with fail
  clear hT hs
  refine (read_b T (by have := HT.out; omega) _ (HE.out.below HB1.out)).mono ?_
  rintro e w2 ⟨rfl, hb2⟩
  have hX := rdL_len T.data.toList
  have hrr := fun w => rread_b T HT.out w
  generalize rdL T.data.toList = X at *
  generalize rdE T.data.toList = R at *
  have H2 : Hid ((w2.alloc (.cells (cc X) 23)).heap[w2.heap.size]? = some (.cells (cc X) 23 (0, 0)) ∧ Below w.heap.size w (w2.alloc (.cells (cc X) 23))) := by
    have q := HB1.out.trans (hb2.mono HB1.out.size)
    exact ⟨heap_alloc_new _ _, q.alloc q.size _⟩
  have HRR := Hid.mk' hrr
  clear hb2 HB1 hrr
  go_wp2_with (first
    | (refine wl_new hX rfl _ _ rfl rfl rfl rfl ?_))
  refine (HRR.out _).mono ?_
  rintro e w4 ⟨rfl, hb4⟩
  have H4 : Hid (w4.heap[w2.heap.size]? = some (.cells (cc X) 23 (0, 0)) ∧ Below w.heap.size w w4) := ⟨keep_blk hb4 H2.out.1, H2.out.2.trans (hb4.mono H2.out.2.size)⟩
  clear hb4 H2 HRR
  have ft := fun j (hj : j < 15) => cc_get X j (by omega)
  have fu := cells_alloc hX H4.out.1 (.cells (cc X) 23)
  obtain ⟨g3, hg3⟩ : ∃ g3, w2.heap.size = g3 := ⟨_, rfl⟩
  rw [hg3] at fu H4 ⊢
  clear hg3
  have a0 := ft 0 (by omega)
  have a1 := ft 1 (by omega)
  have a2 := ft 2 (by omega)
  have a3 := ft 3 (by omega)
  have a4 := ft 4 (by omega)
  have a5 := ft 5 (by omega)
  have a6 := ft 6 (by omega)
  have a7 := ft 7 (by omega)
  have a8 := ft 8 (by omega)
  have a9 := ft 9 (by omega)
  have a10 := ft 10 (by omega)
  have a11 := ft 11 (by omega)
  have a12 := ft 12 (by omega)
  have a13 := ft 13 (by omega)
  have a14 := ft 14 (by omega)
  have b0 := fu 0 (by omega)
  have b1 := fu 1 (by omega)
  have b2 := fu 2 (by omega)
  have b3 := fu 3 (by omega)
  have b4 := fu 4 (by omega)
  have b5 := fu 5 (by omega)
  have b6 := fu 6 (by omega)
  have b7 := fu 7 (by omega)
  have b8 := fu 8 (by omega)
  have b9 := fu 9 (by omega)
  have b10 := fu 10 (by omega)
  have b11 := fu 11 (by omega)
  have b12 := fu 12 (by omega)
  have b13 := fu 13 (by omega)
  have b14 := fu 14 (by omega)
  clear ft fu
  generalize X.getD 0 0 = c0 at *
  generalize X.getD 1 0 = c1 at *
  generalize X.getD 2 0 = c2 at *
  generalize X.getD 3 0 = c3 at *
  generalize X.getD 4 0 = c4 at *
  generalize X.getD 5 0 = c5 at *
  generalize X.getD 6 0 = c6 at *
  generalize X.getD 7 0 = c7 at *
  generalize X.getD 8 0 = c8 at *
  generalize X.getD 9 0 = c9 at *
  generalize X.getD 10 0 = c10 at *
  generalize X.getD 11 0 = c11 at *
  generalize X.getD 12 0 = c12 at *
  generalize X.getD 13 0 = c13 at *
  generalize X.getD 14 0 = c14 at *
  go_wp2_with (first
    | (refine wl_new hX rfl _ _ rfl rfl rfl rfl ?_))
  go_ret
  exact ⟨rfl, H4.out.2.alloc H4.out.2.size _⟩

end Go.Proofs.YtmhigndplbdknaaDoor
