/-
  What Feed and Want do, as contracts: Feed tells the frames, turns the reader's own block alone, and leaves the reader as the plain function feedB says; Want answers what wantB says. Conditions: a reader lies there; it has at most 2000 bytes, with those that come.
-/
import Derived.Test.YtbpflpngaipckaaRd
import Derived.Deep.RegionHeld3
import Derived.Deep.DrawnRows
namespace Go.Proofs.Ytbpflpngaipckaa
open Go.ChangeShapes Go.WideShapes Go.ChangeAt Go.RowKit
attribute [local go_sem ↓] Go.wp_at_zero Go.wp_at_succ

theorem feed_nil (s : ByteArray) (w : World) :
    Calls Try.prog 13 #[.pointer none, .string s] w fun e w' => e = .returned (.tuple #[.slice none 0 0, .int .i64 1]) ∧ w' = w := by
  go_enter Try.func13, Try.ntmps13
  go_wp2_with (first | (go_at_call 17; refine (err_nil _).mono ?_; rintro e w' ⟨rfl, rfl⟩))
  go_ret2
  exact ⟨rfl, rfl⟩

theorem want_nil (w : World) :
    Calls Try.prog 18 #[.pointer none] w fun e w' => e = .returned (.int .i64 0) ∧ w' = w := by
  go_enter Try.func18, Try.ntmps18
  go_wp2_with (first | (go_at_call 17; refine (err_nil _).mono ?_; rintro e w' ⟨rfl, rfl⟩))
  go_ret
  exact ⟨rfl, rfl⟩

theorem feed_err (g : Nat) (c : Int) (r : Rd) (s : ByteArray) (w : World) (h : RAt w g c r) (he : r.e ≠ 0) :
    Calls Try.prog 13 #[.pointer (some ⟨g, 0, none⟩), .string s] w fun e w' => e = .returned (.tuple #[.slice none 0 0, .int .i64 r.e]) ∧ w' = w := by
  have hne : (r.e != 0) = true := by simpa using he
  clear he
  go_enter Try.func13, Try.ntmps13
  go_wp2_with (first | (go_at_call 17; refine (err_any g c r _ h).mono ?_; rintro e w' ⟨rfl, rfl⟩))
  go_ret2
  exact ⟨rfl, rfl⟩

/-- The text of the bytes from the place n on. -/
theorem conv_from {w : World} {b len cap n c' : Nat} {bs : List UInt8} (h : BytesAt w (some ⟨b, 0, none⟩) len cap bs) (hn : n ≤ len) :
    (convert 50 9 (.slice (some ⟨b, n, none⟩) (len - n) c')).run Try.prog w = .ok (.string (mkS (bs.drop n))) w := by
  have := run_convert_bytes_arg (P := Try.prog) w 50 5 Try.underlying50 Try.underlying5 b n (len - n) c' ((bs.drop n).map fun x => (x.toNat : Int)) (by simp [h.hlen]) (fun i hi => by
    obtain ⟨b', off', e, _, hc⟩ := h.at_ (n + i) (by omega)
    cases e
    have e1 : n + i = 0 + (n + i) := by omega
    rw [e1, hc]
    have hl := h.hlen
    have h3 : n + i < bs.length := by omega
    simp [List.getD, h3]) 9 Try.underlying9
  rw [strOf_mkS] at this
  exact this

theorem RAt.set_held {w : World} {g : Nat} {c : Int} {r : Rd} (h : RAt w g c r) (he : r.e = 0) (l : List UInt8) : RAt (w.setCell ⟨g, 1, none⟩ (.string (mkS l))) g c ⟨l, 0⟩ := by
  have h0 := h.c0
  have h1 := h.c1
  have h2 := h.c2
  rw [he] at h2
  exact ⟨by simp [go_sem, h0], by simp [go_sem, h1], by simp [go_sem, h2], (World.frozen?_setCell _ _ _ _).trans h.f1, (World.frozen?_setCell _ _ _ _).trans h.f2⟩

theorem RAt.set_err {w : World} {g : Nat} {c : Int} {r : Rd} (h : RAt w g c r) (E : Int) : RAt ((w.setCell ⟨g, 1, none⟩ (.string ⟨#[]⟩)).setCell ⟨g, 2, none⟩ (.int .i64 E)) g c ⟨[], E⟩ := by
  have h0 := h.c0
  have h1 := h.c1
  have h2 := h.c2
  exact ⟨by simp [go_sem, h0], by simp [go_sem, h1]; rfl, by simp [go_sem, h2], ((World.frozen?_setCell _ _ _ _).trans (World.frozen?_setCell _ _ _ _)).trans h.f1, ((World.frozen?_setCell _ _ _ _).trans (World.frozen?_setCell _ _ _ _)).trans h.f2⟩

theorem grown_of_below {w w' : World} (h : Below w.heap.size w w') (row : Option Nat) : w.grownBy w' row := ⟨h.os, h.tape, h.output, h.size, fun k hk _ => h.block k hk⟩
theorem grown_set {a w : World} {g : Nat} (h : a.grownBy w (some g)) (i : Nat) (v : Value) : a.grownBy (w.setCell ⟨g, i, none⟩ v) (some g) :=
  ⟨h.os, h.tape, h.output, Nat.le_trans h.size (by simp [World.setCell]), fun k hk hne => (Below.heap_setCell w ⟨g, i, none⟩ v k (fun e => hne (by rw [e]))).trans (h.block k hk hne)⟩

set_option maxHeartbeats 1000000 in
set_option maxRecDepth 100000 in
theorem feed_ok (g : Nat) (c : Int) (r : Rd) (s : ByteArray) (w : World) (h : RAt w g c r) (hl : r.h.length + s.size ≤ 2000) (he : r.e = 0) :
    Calls Try.prog 13 #[.pointer (some ⟨g, 0, none⟩), .string s] w fun e w' => ∃ v, e = .returned (.tuple #[v, .int .i64 (feedB c r s.data.toList).1.e]) ∧
      w'.ownsRow w.heap.size 48 2 v (feedB c r s.data.toList).2.length (fc (feedB c r s.data.toList).2) ∧ RAt w' g c (feedB c r s.data.toList).1 ∧ w.grownBy w' (some g) := by
  have hlt := h.lt
  have h0 := h.c0
  have h1 := h.c1
  have f1 := h.f1
  have f2 := h.f2
  have hs2 : (mkS r.h).size + s.size ≤ 2000 := by rw [mkS_size]; exact hl
  have hap := mkS_append r.h s
  obtain ⟨bs, hbs⟩ : ∃ bs, r.h ++ s.data.toList = bs := ⟨_, rfl⟩
  have hlen : bs.length ≤ 2000 := by rw [← hbs, List.length_append, show s.data.toList.length = s.size from Array.length_toList]; exact hl
  have hms : (mkS bs).size = bs.length := mkS_size bs
  rw [hbs] at hap
  obtain ⟨C, W1, hcv, hB1, hb1, hz1, hC⟩ := conv_str w (mkS bs) (by unfold maxLen; omega)
  rw [mkS_data, hms] at hB1
  rw [hms] at hcv hC
  have hr1 := h.below hb1
  have q0 := hr1.c0
  have hC2 := hB1.hcap
  unfold maxLen at hC2
  have hW1 : g < W1.heap.size := by omega
  have hle := allB_le bs c
  obtain ⟨L, hL⟩ : ∃ L, bs.length = L := ⟨_, rfl⟩
  rw [hL] at hB1 hcv hC hle hlen
  obtain ⟨n, hn⟩ : ∃ n, (allB bs c).2.1 = n := ⟨_, rfl⟩
  obtain ⟨E, hE⟩ : ∃ E, (allB bs c).2.2 = E := ⟨_, rfl⟩
  rw [hn] at hle
  by_cases hE0 : E = 0
  · have hfe := feedB_ok (c := c) (b := s.data.toList) he (by rw [hbs, hE]; exact hE0)
    rw [hbs, hn] at hfe
    rw [hfe]
    have HFE : Hid ((allB bs c).2.1 = n ∧ (allB bs c).2.2 = E) := ⟨hn, hE⟩
    have HLL : Hid (bs.length = L) := hL
    clear hfe hn hE hms hbs hz1 hL
    subst hE0
    go_enter Try.func13, Try.ntmps13
    go_wp2_with fail
    refine (err_any g c r _ h).mono ?_
    rintro e w' ⟨rfl, hw⟩
    obtain rfl : w = w' := hw.symm
    rw [he]
    clear h
    go_wp2_with fail
    refine (all_any _ _ _ bs c _ hB1 hlen).mono ?_
    rintro e W2 ⟨v, rfl, ho, hb2⟩
    obtain ⟨hn, hE⟩ := HFE.out
    rw [hn, hE]
    have hr2 := hr1.below hb2
    have hB2 := hB1.below hb2
    have p1 := hr2.c1
    have g1 := hr2.f1
    clear hn hE HFE hB1 hr1 q0 h0 h1 f1 f2 hap hs2
    by_cases hCn : C = n
    · subst hCn
      obtain rfl : L = C := by omega
      have hd : bs.drop L = [] := List.drop_of_length_le (by rw [HLL.out]; exact Nat.le_refl _)
      have hcv2 := conv_none (w := W2) (b := w.heap.size) (off := 0) (c' := 0)
      rw [← hd] at hcv2
      clear hd
      go_wp2
      go_ret2
      refine ⟨v, rfl, ?_, hr2.set_held he _, grown_set (grown_of_below (hb1.trans (hb2.mono hb1.size)) _) _ _⟩
      exact ownsRow_setCell_below (owns_base ho hb1.size) hlt _
    · have hcv2 := conv_from (c' := C - n) hB2 hle
      go_wp2
      go_ret2
      refine ⟨v, rfl, ?_, hr2.set_held he _, grown_set (grown_of_below (hb1.trans (hb2.mono hb1.size)) _) _ _⟩
      exact ownsRow_setCell_below (owns_base ho hb1.size) hlt _
  · have hfe := feedB_bad (c := c) (b := s.data.toList) he (by rw [hbs, hE]; exact hE0)
    rw [hbs, hE] at hfe
    rw [hfe]
    have hne : (E != 0) = true := by simpa using hE0
    have HFE : Hid ((allB bs c).2.1 = n ∧ (allB bs c).2.2 = E) := ⟨hn, hE⟩
    clear hfe hn hE hms hbs hz1 hL hE0
    go_enter Try.func13, Try.ntmps13
    go_wp2_with fail
    refine (err_any g c r _ h).mono ?_
    rintro e w' ⟨rfl, hw⟩
    obtain rfl : w = w' := hw.symm
    rw [he]
    clear h
    go_wp2_with fail
    refine (all_any _ _ _ bs c _ hB1 hlen).mono ?_
    rintro e W2 ⟨v, rfl, ho, hb2⟩
    obtain ⟨hn, hE⟩ := HFE.out
    rw [hn, hE]
    have hr2 := hr1.below hb2
    have p1 := hr2.c1
    have g1 := hr2.f1
    have p2 := hr2.c2
    have g2 := hr2.f2
    clear hn hE HFE hB1 hr1 q0 h0 h1 f1 f2 hap hs2
    go_wp2
    go_ret2
    refine ⟨v, rfl, ?_, hr2.set_err E, grown_set (grown_set (grown_of_below (hb1.trans (hb2.mono hb1.size)) _) _ _) _ _⟩
    exact ownsRow_setCell_below (ownsRow_setCell_below (owns_base ho hb1.size) hlt _) hlt _

theorem feed_any (g : Nat) (c : Int) (r : Rd) (s : ByteArray) (w : World) (h : RAt w g c r) (hl : r.h.length + s.size ≤ 2000) :
    Calls Try.prog 13 #[.pointer (some ⟨g, 0, none⟩), .string s] w fun e w' => ∃ v, e = .returned (.tuple #[v, .int .i64 (feedB c r s.data.toList).1.e]) ∧
      w'.ownsRow w.heap.size 48 2 v (feedB c r s.data.toList).2.length (fc (feedB c r s.data.toList).2) ∧ RAt w' g c (feedB c r s.data.toList).1 ∧ w.grownBy w' (some g) := by
  by_cases he : r.e = 0
  · exact feed_ok g c r s w h hl he
  · rw [feedB_err he]
    refine (feed_err g c r s w h he).mono ?_
    rintro e w' ⟨rfl, rfl⟩
    exact ⟨_, rfl, World.ownsRow_nil _ _ _ _, h, World.grownBy.refl _ _⟩

theorem want_err (g : Nat) (c : Int) (r : Rd) (w : World) (h : RAt w g c r) (he : r.e ≠ 0) :
    Calls Try.prog 18 #[.pointer (some ⟨g, 0, none⟩)] w fun e w' => e = .returned (.int .i64 0) ∧ w' = w := by
  have hne : (r.e != 0) = true := by simpa using he
  clear he
  go_enter Try.func18, Try.ntmps18
  go_wp2_with (first | (go_at_call 17; refine (err_any g c r _ h).mono ?_; rintro e w' ⟨rfl, rfl⟩))
  go_ret
  exact ⟨rfl, rfl⟩

set_option maxHeartbeats 1000000 in
set_option maxRecDepth 100000 in
theorem want_ok (g : Nat) (c : Int) (r : Rd) (w : World) (h : RAt w g c r) (hl : r.h.length ≤ 2000) (he : r.e = 0) :
    Calls Try.prog 18 #[.pointer (some ⟨g, 0, none⟩)] w fun e w' => e = .returned (.int .i64 (3 + (headB r.h c).2.1 - r.h.length)) ∧ Below w.heap.size w w' := by
  have h0 := h.c0
  have h1 := h.c1
  have hlt := h.lt
  have hms : (mkS r.h).size = r.h.length := mkS_size r.h
  obtain ⟨C, W1, hcv, hB1, hb1, hz1, hC⟩ := conv_str w.drew (mkS r.h) (by unfold maxLen; omega)
  rw [mkS_data, hms] at hB1
  have hr1 : RAt W1 g c r := (show RAt w.drew g c r from ⟨h.c0, h.c1, h.c2, h.f1, h.f2⟩).below hb1
  have q0 := hr1.c0
  have q1 := hr1.c1
  have hlt1 := hr1.lt
  obtain ⟨m, hm, hm2⟩ : ∃ m : Nat, (headB r.h c).2.1 = m ∧ m ≤ 1024 := by
    rcases headB_cases r.h c with ⟨_, _, k, _, _⟩ | ⟨_, _, _, k1, k2, _⟩
    · exact ⟨0, k, by omega⟩
    · have := capd_hi c
      exact ⟨(headB r.h c).2.1.toNat, by omega, by omega⟩
  rw [hm]
  have HM : Hid ((headB r.h c).2.1 = (m : Int)) := hm
  have HS : Hid ((mkS r.h).size = r.h.length) := hms
  rw [hms] at hcv
  clear hm hC hz1
  generalize hLL : r.h.length = L at hl hcv hB1 hms HS ⊢
  have hs9 : (mkS r.h).size ≤ 2000 := by omega
  clear hLL
  go_enter Try.func18, Try.ntmps18
  go_wp2_with fail
  refine (err_any g c r _ h).mono ?_
  rintro e w' ⟨rfl, hw⟩
  obtain rfl : w = w' := hw.symm
  rw [he]
  clear h hw
  go_wp2
  go_region_held (fun w' => w'.cell? ⟨g, 0, none⟩ = some (.int .i64 c) ∧ w'.cell? ⟨g, 1, none⟩ = some (.string (mkS r.h)))
    (first | exact ⟨(hbx.cell (p := ⟨g, 0, none⟩) hlt1).trans q0, (hbx.cell (p := ⟨g, 1, none⟩) hlt1).trans q1⟩ | go_keep)
    (first | (go_at_call 27; refine (head_any _ _ _ r.h c _ (by assumption)).mono ?_; rintro e w' ⟨rfl, hbx⟩))
  rw [HM.out]
  go_wp2
  go_ret
  exact ⟨rfl, (show Below w.heap.size w W1 from ⟨hb1.os, hb1.tape, hb1.output, hb1.size, hb1.block⟩).trans (hbx.mono hb1.size)⟩

theorem want_any (g : Nat) (c : Int) (r : Rd) (w : World) (h : RAt w g c r) (hl : r.h.length ≤ 2000) :
    Calls Try.prog 18 #[.pointer (some ⟨g, 0, none⟩)] w fun e w' => e = .returned (.int .i64 (wantB c r)) ∧ Below w.heap.size w w' := by
  by_cases he : r.e = 0
  · have e : wantB c r = 3 + (headB r.h c).2.1 - r.h.length := by unfold wantB; rw [if_neg (by simpa using he)]
    rw [e]
    exact want_ok g c r w h hl he
  · have e : wantB c r = 0 := by unfold wantB; rw [if_pos he]
    rw [e]
    refine (want_err g c r w h he).mono ?_
    rintro e w' ⟨rfl, rfl⟩
    exact ⟨rfl, Below.refl _ _⟩

end Go.Proofs.Ytbpflpngaipckaa
