/-
  What the document's own Feed and Want do: what the plain functions feedB and wantB say; nothing that was there is turned. Condition: the reader has at most 2000 bytes, with those that come.
-/
import Derived.Test.YtbpflpngaipckaaGoodR
import Derived.BigRegion
namespace Go.Proofs.Ytbpflpngaipckaa
open Go.ChangeShapes Go.WideShapes Go.ChangeAt Go.RowKit

theorem rwant_err (c : Int) (r : Rd) (w : World) (he : r.e ≠ 0) :
    Calls Try.prog 19 #[.agg #[.int .i64 c, .string (mkS r.h), .int .i64 r.e]] w fun e w' => e = .returned (.int .i64 0) ∧ Below w.heap.size w w' := by
  have hne : (r.e != 0) = true := by simpa using he
  clear he
  go_enter Try.func19, Try.ntmps19
  go_wp2
  go_ret
  exact ⟨rfl, (Below.refl _ _).alloc (Nat.le_refl _) _⟩

theorem rwant_short (c : Int) (r : Rd) (w : World) (he : r.e = 0) (hl : r.h.length < 3) :
    Calls Try.prog 19 #[.agg #[.int .i64 c, .string (mkS r.h), .int .i64 r.e]] w fun e w' => e = .returned (.int .i64 (3 - (r.h.length : Int))) ∧ Below w.heap.size w w' := by
  rw [he]
  have hs := mkS_size r.h
  have hl' : (mkS r.h).size < 3 := by omega
  rw [← hs]
  clear he hs hl
  go_enter Try.func19, Try.ntmps19
  go_wp2
  go_ret
  exact ⟨rfl, (Below.refl _ _).alloc (Nat.le_refl _) _⟩

set_option maxHeartbeats 1000000 in
set_option maxRecDepth 100000 in
theorem rwant_long (c : Int) (r : Rd) (w : World) (he : r.e = 0) (hl : ¬ r.h.length < 3) (h2k : r.h.length ≤ 2000) :
    Calls Try.prog 19 #[.agg #[.int .i64 c, .string (mkS r.h), .int .i64 r.e]] w fun e w' => e = .returned (.int .i64 (3 + (headB r.h c).2.1 - r.h.length)) ∧ Below w.heap.size w w' := by
  rw [he]
  have hs := mkS_size r.h
  obtain ⟨m, hm, hm2⟩ : ∃ m : Nat, (headB r.h c).2.1 = m ∧ m ≤ 1024 := by
    rcases headB_cases r.h c with ⟨_, _, k, _, _⟩ | ⟨_, _, _, k1, k2, _⟩
    · exact ⟨0, k, by omega⟩
    · have := capd_hi c
      exact ⟨(headB r.h c).2.1.toNat, by omega, by omega⟩
  rw [hm]
  have HM : Hid ((headB r.h c).2.1 = (m : Int)) := hm
  have HS : Hid ((mkS r.h).size = r.h.length) := hs
  rw [← hs]
  have hl' : ¬ (mkS r.h).size < 3 := by omega
  have hd : decide (((mkS r.h).size : Int) < 3) = false := by simp; omega
  have h9 : (mkS r.h).size ≤ 2000 := by omega
  obtain ⟨W0, hW⟩ : ∃ W0, w.alloc (.cells #[.int .i64 c, .string (mkS r.h), .int .i64 0] 28) = W0 := ⟨_, rfl⟩
  have c2 : W0.cell? ⟨w.heap.size, 2, none⟩ = some (.int .i64 0) := by rw [← hW]; simp [go_sem]
  have c0 : W0.cell? ⟨w.heap.size, 0, none⟩ = some (.int .i64 c) := by rw [← hW]; simp [go_sem]
  have c1 : W0.cell? ⟨w.heap.size, 1, none⟩ = some (.string (mkS r.h)) := by rw [← hW]; simp [go_sem]
  have b0 : Below w.heap.size w W0 := by rw [← hW]; exact (Below.refl _ _).alloc (Nat.le_refl _) _
  have hlt : w.heap.size < W0.heap.size := by rw [← hW]; simp
  clear he hs hm hl
  obtain ⟨C, W1, hcv, hB1, hb1, hz1, hC⟩ := conv_str W0 (mkS r.h) (by unfold maxLen; omega)
  rw [mkS_data] at hB1
  have q0 := (hb1.cell (p := ⟨w.heap.size, 0, none⟩) hlt).trans c0
  have q1 := (hb1.cell (p := ⟨w.heap.size, 1, none⟩) hlt).trans c1
  go_enter Try.func19, Try.ntmps19
  go_wp2_with fail
  refine (rhead_any _ _ _ r.h c W1 hB1).mono ?_
  rintro e W2 ⟨rfl, hb2⟩
  have p1 := (hb2.cell (p := ⟨w.heap.size, 1, none⟩) (show w.heap.size < W1.heap.size by omega)).trans q1
  rw [HM.out]
  go_wp2
  go_ret
  exact ⟨rfl, (b0.trans (hb1.mono (by omega))).trans (hb2.mono (by omega))⟩

theorem rwant_any (c : Int) (r : Rd) (w : World) (hl : r.h.length ≤ 2000) :
    Calls Try.prog 19 #[.agg #[.int .i64 c, .string (mkS r.h), .int .i64 r.e]] w fun e w' => e = .returned (.int .i64 (wantB c r)) ∧ Below w.heap.size w w' := by
  by_cases he : r.e = 0
  · have e : wantB c r = 3 + (headB r.h c).2.1 - r.h.length := by unfold wantB; rw [if_neg (by simpa using he)]
    rw [e]
    by_cases h3 : r.h.length < 3
    · rw [headB_short h3]
      exact rwant_short c r w he h3
    · exact rwant_long c r w he h3 hl
  · rw [want_zero he]
    exact rwant_err c r w he

set_option maxHeartbeats 1000000 in
set_option maxRecDepth 100000 in
theorem rfeed_err (c : Int) (r : Rd) (s : ByteArray) (w : World) (he : r.e ≠ 0) :
    Calls Try.prog 14 #[.agg #[.int .i64 c, .string (mkS r.h), .int .i64 r.e], .string s] w fun e w' => e = .returned (.tuple #[.agg #[.int .i64 c, .string (mkS r.h), .int .i64 r.e], .slice none 0 0, .int .i64 r.e]) ∧ Below w.heap.size w w' := by
  have hne : (r.e != 0) = true := by simpa using he
  clear he
  go_enter Try.func14, Try.ntmps14
  go_wp2
  go_region
  go_wp2
  exact bodyPost_ret (v := .tuple #[.agg #[.int .i64 c, .string (mkS r.h), .int .i64 r.e], .slice none 0 0, .int .i64 r.e]) (by simp [results, Try.results14, go_sem]) rfl ⟨rfl, (((Below.refl _ _).alloc (Nat.le_refl _) _).alloc (by simp) _).drew⟩

theorem mkS_from (bs : List UInt8) (n L : Nat) (h : L = bs.length) : (mkS bs).extract n L = mkS (bs.drop n) := by
  apply ByteArray.ext
  apply Array.toList_inj.1
  simp [mkS, List.extract]
  rw [List.take_of_length_le (by rw [List.length_drop]; omega)]

set_option maxHeartbeats 2000000 in
set_option maxRecDepth 100000 in
theorem rfeed_ok (c : Int) (r : Rd) (s : ByteArray) (w : World) (hl : r.h.length + s.size ≤ 2000) (he : r.e = 0) :
    Calls Try.prog 14 #[.agg #[.int .i64 c, .string (mkS r.h), .int .i64 r.e], .string s] w fun e w' => ∃ v, e = .returned (.tuple #[.agg #[.int .i64 c, .string (mkS (feedB c r s.data.toList).1.h), .int .i64 (feedB c r s.data.toList).1.e], v, .int .i64 (feedB c r s.data.toList).1.e]) ∧
      w'.ownsRow w.heap.size 48 2 v (feedB c r s.data.toList).2.length (fc (feedB c r s.data.toList).2) ∧ Below w.heap.size w w' := by
  have hs2 : (mkS r.h).size + s.size ≤ 2000 := by rw [mkS_size]; exact hl
  have hap := mkS_append r.h s
  obtain ⟨bs, hbs⟩ : ∃ bs, r.h ++ s.data.toList = bs := ⟨_, rfl⟩
  have hlen : bs.length ≤ 2000 := by rw [← hbs, List.length_append, show s.data.toList.length = s.size from Array.length_toList]; exact hl
  have hms : (mkS bs).size = bs.length := mkS_size bs
  rw [hbs] at hap
  rw [he]
  obtain ⟨W0, hW⟩ : ∃ W0, (w.alloc (.cells #[.int .i64 c, .string (mkS r.h), .int .i64 0] 28)).alloc (.cells #[.int .i64 0, .string ⟨#[]⟩, .int .i64 0] 28) = W0 := ⟨_, rfl⟩
  have c0 : W0.cell? ⟨w.heap.size, 0, none⟩ = some (.int .i64 c) := by rw [← hW]; simp [go_sem]
  have c1 : W0.cell? ⟨w.heap.size, 1, none⟩ = some (.string (mkS r.h)) := by rw [← hW]; simp [go_sem]
  have c2 : W0.cell? ⟨w.heap.size, 2, none⟩ = some (.int .i64 0) := by rw [← hW]; simp [go_sem]
  have d0 : W0.cell? ⟨w.heap.size + 1, 0, none⟩ = some (.int .i64 0) := by rw [← hW]; simp [go_sem]
  have d1 : W0.cell? ⟨w.heap.size + 1, 1, none⟩ = some (.string ⟨#[]⟩) := by rw [← hW]; simp [go_sem]
  have d2 : W0.cell? ⟨w.heap.size + 1, 2, none⟩ = some (.int .i64 0) := by rw [← hW]; simp [go_sem]
  have fz : ∀ i, W0.frozen? ⟨w.heap.size + 1, i, none⟩ = false := by intro i; rw [← hW]; simp [go_sem]
  have b0 : Below w.heap.size w W0 := by rw [← hW]; exact ((Below.refl _ _).alloc (Nat.le_refl _) _).alloc (by simp) _
  have hlt : w.heap.size + 1 < W0.heap.size := by rw [← hW]; simp
  obtain ⟨C, W1, hcv, hB1, hb1, hz1, hC⟩ := conv_str W0 (mkS bs) (by unfold maxLen; omega)
  rw [mkS_data, hms] at hB1
  rw [hms] at hcv hC
  have q0 := (hb1.cell (p := ⟨w.heap.size, 0, none⟩) (show w.heap.size < W0.heap.size by omega)).trans c0
  have hle := allB_le bs c
  obtain ⟨L, hL⟩ : ∃ L, bs.length = L := ⟨_, rfl⟩
  rw [hL] at hB1 hcv hC hle hlen hms
  obtain ⟨n, hn⟩ : ∃ n, (allB bs c).2.1 = n := ⟨_, rfl⟩
  obtain ⟨E, hE⟩ : ∃ E, (allB bs c).2.2 = E := ⟨_, rfl⟩
  rw [hn] at hle
  have hex := mkS_from bs n L hL.symm
  have HFE : Hid ((allB bs c).2.1 = n ∧ (allB bs c).2.2 = E) := ⟨hn, hE⟩
  by_cases hE0 : E = 0
  · have hfe := feedB_ok (c := c) (b := s.data.toList) he (by rw [hbs, hE]; exact hE0)
    rw [hbs, hn] at hfe
    rw [hfe]
    clear hfe hn hE hbs hL he
    subst hE0
    go_enter Try.func14, Try.ntmps14
    go_wp2_with fail
    refine (rall_any _ _ _ bs c _ hB1 hlen).mono ?_
    rintro e W2 ⟨v, rfl, ho, hb2⟩
    obtain ⟨hn, hE⟩ := HFE.out
    rw [hn, hE]
    have b02 : Below W0.heap.size W0 W2 := hb1.trans (hb2.mono hb1.size)
    have x0 := (b02.cell (p := ⟨w.heap.size, 0, none⟩) (show w.heap.size < W0.heap.size by omega)).trans c0
    have y0 := (b02.cell (p := ⟨w.heap.size + 1, 0, none⟩) hlt).trans d0
    have y1 := (b02.cell (p := ⟨w.heap.size + 1, 1, none⟩) hlt).trans d1
    have y2 := (b02.cell (p := ⟨w.heap.size + 1, 2, none⟩) hlt).trans d2
    have z0 := (b02.frozen (p := ⟨w.heap.size + 1, 0, none⟩) hlt).trans (fz 0)
    have z1 := (b02.frozen (p := ⟨w.heap.size + 1, 1, none⟩) hlt).trans (fz 1)
    have z2 := (b02.frozen (p := ⟨w.heap.size + 1, 2, none⟩) hlt).trans (fz 2)
    have h1W : W0.heap.size ≤ W1.heap.size := hb1.size
    have hnI : (n : Int) ≤ (L : Int) := by omega
    clear hn hE HFE hB1 c0 c1 c2 d0 d1 d2 fz hap hs2 hcv q0 hW
    have hg1 : w.heap.size + 1 < W1.heap.size := by omega
    have B2 : Below w.heap.size w W2 := b0.trans (b02.mono (by omega))
    go_wp2
    go_region
    go_wp2
    refine bodyPost_ret (v := .tuple #[.agg #[.int .i64 c, .string (mkS (bs.drop n)), .int .i64 0], v, .int .i64 0]) (by simp [results, Try.results14, go_sem, y0, y1, y2]) rfl ?_
    refine ⟨v, rfl, ?_, (((B2.setCell (Nat.le_succ _) _).setCell (Nat.le_succ _) _).setCell (Nat.le_succ _) _).drew⟩
    exact (owns_base (ownsRow_setCell_below (ownsRow_setCell_below (ownsRow_setCell_below ho hg1 _) hg1 _) hg1 _) (by omega)).drew
  · have hfe := feedB_bad (c := c) (b := s.data.toList) he (by rw [hbs, hE]; exact hE0)
    rw [hbs, hE] at hfe
    rw [hfe]
    have hne : (E != 0) = true := by simpa using hE0
    clear hfe hn hE hbs hL he hE0
    go_enter Try.func14, Try.ntmps14
    go_wp2_with fail
    refine (rall_any _ _ _ bs c _ hB1 hlen).mono ?_
    rintro e W2 ⟨v, rfl, ho, hb2⟩
    obtain ⟨hn, hE⟩ := HFE.out
    rw [hn, hE]
    have b02 : Below W0.heap.size W0 W2 := hb1.trans (hb2.mono hb1.size)
    have x0 := (b02.cell (p := ⟨w.heap.size, 0, none⟩) (show w.heap.size < W0.heap.size by omega)).trans c0
    have y0 := (b02.cell (p := ⟨w.heap.size + 1, 0, none⟩) hlt).trans d0
    have y1 := (b02.cell (p := ⟨w.heap.size + 1, 1, none⟩) hlt).trans d1
    have y2 := (b02.cell (p := ⟨w.heap.size + 1, 2, none⟩) hlt).trans d2
    have z0 := (b02.frozen (p := ⟨w.heap.size + 1, 0, none⟩) hlt).trans (fz 0)
    have z1 := (b02.frozen (p := ⟨w.heap.size + 1, 1, none⟩) hlt).trans (fz 1)
    have z2 := (b02.frozen (p := ⟨w.heap.size + 1, 2, none⟩) hlt).trans (fz 2)
    have h1W : W0.heap.size ≤ W1.heap.size := hb1.size
    clear hn hE HFE hB1 c0 c1 c2 d0 d1 d2 fz hap hs2 hcv q0 hW
    have hg1 : w.heap.size + 1 < W1.heap.size := by omega
    have B2 : Below w.heap.size w W2 := b0.trans (b02.mono (by omega))
    go_wp2
    refine bodyPost_ret (v := .tuple #[.agg #[.int .i64 c, .string ⟨#[]⟩, .int .i64 E], v, .int .i64 E]) (by simp [results, Try.results14, go_sem, y0, y1, y2]) rfl ?_
    refine ⟨v, rfl, ?_, ((B2.setCell (Nat.le_succ _) _).setCell (Nat.le_succ _) _).setCell (Nat.le_succ _) _⟩
    exact owns_base (ownsRow_setCell_below (ownsRow_setCell_below (ownsRow_setCell_below ho hg1 _) hg1 _) hg1 _) (by omega)

/-- The document's Feed, what comes of it by names. -/
theorem rfeed_named (c : Int) (r : Rd) (s : ByteArray) (w : World) (hl : r.h.length + s.size ≤ 2000) :
    Calls Try.prog 14 #[.agg #[.int .i64 c, .string (mkS r.h), .int .i64 r.e], .string s] w fun e w' => ∃ v r' l, e = .returned (.tuple #[.agg #[.int .i64 c, .string (mkS r'.h), .int .i64 r'.e], v, .int .i64 r'.e]) ∧ feedB c r s.data.toList = (r', l) ∧
      w'.ownsRow w.heap.size 48 2 v l.length (fc l) ∧ Below w.heap.size w w' := by
  by_cases he : r.e = 0
  · refine (rfeed_ok c r s w hl he).mono ?_
    rintro e w' ⟨v, rfl, ho, hb⟩
    exact ⟨v, _, _, rfl, rfl, ho, hb⟩
  · refine (rfeed_err c r s w he).mono ?_
    rintro e w' ⟨rfl, hb⟩
    exact ⟨_, r, [], rfl, feedB_err he, World.ownsRow_nil _ _ _ _, hb⟩

end Go.Proofs.Ytbpflpngaipckaa
