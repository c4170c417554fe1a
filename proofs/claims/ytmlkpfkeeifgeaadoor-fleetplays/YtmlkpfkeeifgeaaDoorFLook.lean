/-
  Where a host of a name stands: the closure that compares names, IndexFunc with it, place, find; what an event of a host does. Conditions: a fleet lies where it is said to lie.
-/
import Derived.Test.YtmlkpfkeeifgeaaDoorFPure
import Derived.Deep.RegionHeld3
import Derived.Deep.CutBlock
import Derived.Test.YtmlkpfkeeifgeaaDoorSt
namespace Go.Proofs.YtmlkpfkeeifgeaaDoor
open Go.ChangeShapes Go.WideShapes Go.ChangeAt Go.RowKit

theorem place1_any (k : Nat) (x y : ByteArray) (s : Int) (b : Bool) (w : World) (hk : w.cell? ⟨k, 0, none⟩ = some (.string x)) :
    Calls Tryd.prog 87 #[.agg #[.string y, .int .i64 s, .bool b], .pointer (some ⟨k, 0, none⟩)] w fun e w' => e = .returned (.bool (decide (y = x))) ∧ Below w.heap.size w w' := by
  have hb : Below w.heap.size w (w.alloc (.cells #[.string y, .int .i64 s, .bool b] 97)) := (Below.refl _ w).alloc (Nat.le_refl _) _
  have hk1 := (hb.cell (p := ⟨k, 0, none⟩) (World.block_lt_of_cell? _ _ hk)).trans hk
  have x0 : (w.alloc (.cells #[.string y, .int .i64 s, .bool b] 97)).cell? ⟨w.heap.size, 0, none⟩ = some (.string y) := by simp [go_sem]
  rw [← beq_toList]
  clear hk
  go_enter Tryd.func87, Tryd.ntmps87
  go_upto_region 1 with fail
  generalize w.alloc (.cells #[.string y, .int .i64 s, .bool b] 97) = w1 at *
  go_wp2
  go_ret
  exact ⟨rfl, hb⟩

set_option maxHeartbeats 1000000 in
set_option maxRecDepth 100000 in
theorem index_any (w : World) (a : Option Addr) (n c : Nat) (H : List Hs) (k : Nat) (x : ByteArray) (hr : w.ownsRow 0 97 3 (.slice a n c) n (hcs H)) (hk : w.cell? ⟨k, 0, none⟩ = some (.string x)) :
    Calls Tryd.prog 86 #[.slice a n c, .func (.func 87) #[] #[.pointer (some ⟨k, 0, none⟩)]] w fun e w' => e = .returned (.int .i64 (pl x H)) ∧ Below w.heap.size w w' := by
  obtain ⟨hle, hcm, hlen, hrow⟩ := own_rows hr
  have HR : Hid (∀ i, i < n → ∃ b, a = some ⟨b, 0, none⟩ ∧ 0 ≤ b ∧ b < w.heap.size ∧ w.cell? ⟨b, i * 3, none⟩ = some (.string (atH H i).nm) ∧ w.cell? ⟨b, i * 3 + 1, none⟩ = some (.int .i64 (atH H i).st) ∧ w.cell? ⟨b, i * 3 + 2, none⟩ = some (.bool (atH H i).lv) ∧ ∀ o, w.frozen? ⟨b, o, none⟩ = false) := hrow
  have W0 : Hid ((∀ j, j < plN x H → (atH H j).nm ≠ x) ∧ (plN x H < n → (atH H (plN x H)).nm = x) ∧ plN x H ≤ n) :=
    ⟨fun j hj => by rw [← hn_getD]; exact fidx_lt x _ j hj, fun hj => by rw [← hn_getD]; exact fidx_at x _ (by rw [hn_length, hlen]; exact hj), by have := fidx_le x (hn H); rwa [hn_length, hlen] at this⟩
  have E0 : Hid (plN x H < n → pl x H = plN x H) := fun h => by unfold pl plc; rw [if_pos (by rw [hn_length, hlen]; exact h)]; rfl
  have E1 : Hid (¬ plN x H < n → pl x H = -1) := fun h => by unfold pl plc; rw [if_neg (by rw [hn_length, hlen]; exact h)]
  have HK := Hid.mk' hk
  have hkl := World.block_lt_of_cell? _ _ hk
  unfold maxLen at hcm
  generalize pl x H = P at *
  generalize plN x H = F at *
  clear hr hrow hlen hk
  go_enter Tryd.func86, Tryd.ntmps86
  go_wp2
  go_loopw [8] (fun v8 wr => ∃ i : Nat, v8 = .int .i64 i ∧ i ≤ F ∧ Below w.heap.size w wr) (fun v8 _ => n + 1 - (intOf v8).toNat)
  case atStart => exact ⟨0, rfl, Nat.zero_le _, Below.refl _ _⟩
  case round =>
    obtain ⟨i, rfl, hi, hbl⟩ := hrel
    have hF := W0.out.2.2
    by_cases hin : i < n
    · obtain ⟨b, rfl, -, hb, y0, y1, y2, -⟩ := HR.out i hin
      have x0 := (hbl.cell (p := ⟨b, i * 3, none⟩) hb).trans y0
      have x1 := (hbl.cell (p := ⟨b, i * 3 + 1, none⟩) hb).trans y1
      have x2 := (hbl.cell (p := ⟨b, i * 3 + 2, none⟩) hb).trans y2
      have hp := place1_any k x (atH H i).nm (atH H i).st (atH H i).lv wr ((hbl.cell (p := ⟨k, 0, none⟩) hkl).trans HK.out)
      have HB := Hid.mk' hbl
      by_cases hc : i < F
      · rw [decide_eq_false (W0.out.1 i hc)] at hp
        generalize (atH H i).nm = y at *
        generalize (atH H i).st = s at *
        generalize (atH H i).lv = v at *
        clear hbl y0 y1 y2
        go_wp2_with (go_at_call 87; refine hp.mono ?_; rintro e w2 ⟨rfl, hb2⟩)
        exact ⟨⟨i + 1, by simp, by omega, HB.out.trans (hb2.mono HB.out.size)⟩, by simp [intOf]; omega⟩
      · obtain rfl : F = i := by omega
        rw [decide_eq_true (W0.out.2.1 hin)] at hp
        have HE := Hid.mk' (E0.out hin)
        generalize (atH H F).nm = y at *
        generalize (atH H F).st = s at *
        generalize (atH H F).lv = v at *
        clear hbl y0 y1 y2
        go_wp2_with (go_at_call 87; refine hp.mono ?_; rintro e w2 ⟨rfl, hb2⟩)
        go_ret
        exact ⟨ret_int HE.out.symm, HB.out.trans (hb2.mono HB.out.size)⟩
    · have HE := Hid.mk' (E1.out (by omega))
      obtain rfl : n = i := by omega
      go_wp2
      go_ret
      exact ⟨ret_int HE.out.symm, hbl⟩

section
variable {w : World} {A : Nat → Prop} {f : Nat} {e gd : Int} {H : List Hs} {L M : List Dr}

theorem fplace_nil (x : ByteArray) (w : World) : Calls Tryd.prog 58 #[.pointer none, .string x] w fun e w' => e = .returned (.int .i64 (-1)) ∧ Below w.heap.size w w' := by
  have hb : Below w.heap.size w (w.alloc (.cells #[.string x] 9)) := (Below.refl _ w).alloc (Nat.le_refl _) _
  go_enter Tryd.func58, Tryd.ntmps58
  go_upto_region 1 with fail
  generalize w.alloc (.cells #[.string x] 9) = w1 at *
  go_wp2
  go_ret
  exact ⟨rfl, hb⟩

theorem fplace_w (h : FIn w A f e gd H L M) (x : ByteArray) : Calls Tryd.prog 58 #[.pointer (some ⟨f, 0, none⟩), .string x] w fun r w' => r = .returned (.int .i64 (pl x H)) ∧ Below w.heap.size w w' := by
  have hmf : ∀ (fn : Fn) (first cap : Array Value) (w : World), (Instr.makeFunc fn first cap).run Tryd.prog w = .ok (.func fn first cap) w := fun _ _ _ _ => rfl
  have hb : Below w.heap.size w (w.alloc (.cells #[.string x] 9)) := (Below.refl _ w).alloc (Nat.le_refl _) _
  have x0 : (w.alloc (.cells #[.string x] 9)).cell? ⟨w.heap.size, 0, none⟩ = some (.string x) := by simp [go_sem]
  obtain ⟨g, a, c, h1, h2, -, -⟩ := (h.below hb).ex
  obtain ⟨-, -, -, c3, -⟩ := blk4 h1
  have hi := index_any _ _ _ _ _ _ _ h2 x0
  have hbs := hb.size
  clear h h1 h2 x0
  go_enter Tryd.func58, Tryd.ntmps58
  go_upto_region 1 with fail
  generalize w.alloc (.cells #[.string x] 9) = w1 at *
  generalize hq : w.heap.size = q at *
  generalize H.length = n at *
  go_wp2_with (go_at_call 86; refine hi.mono ?_; rintro e w2 ⟨rfl, hb2⟩)
  go_ret
  subst hq
  exact ⟨rfl, hb.trans (hb2.mono hbs)⟩

theorem fturn_no (p : Value) (ev : Int) (w : World) : Calls Tryd.prog 57 #[p, .int .i64 (-1), .int .i64 ev] w fun r w' => r = .returned (.bool false) ∧ w' = w := by
  go_enter Tryd.func57, Tryd.ntmps57
  go_wp2
  go_ret
  exact ⟨rfl, rfl⟩

theorem fturn_n (h : FIn w A f e gd H L M) (i : Nat) (hi : i < H.length) (ev s' : Int) (b : Bool) (hs : St.nx (atH H i).st ev = s') (hd : St.did (atH H i).st ev = b) :
    Calls Tryd.prog 57 #[.pointer (some ⟨f, 0, none⟩), .int .i64 i, .int .i64 ev] w fun r w' => r = .returned (.bool b) ∧ FIn w' A f e gd (setS H i s') L M ∧ Keep A w w' := by
  obtain ⟨g, a, c, -, -, -, c3, -, hle, hcm, -, -, hrow⟩ := h.cells
  obtain ⟨bb, rfl, hb, -, y1, -, hfz⟩ := hrow i hi
  have hf := hfz (i * 3 + 1)
  have hnx := St.next_n (atH H i).st ev w h.tabs s' b hs hd
  have HE := Hid.mk' (h.setS c3 hi s')
  have hi0 : ((i : Int) == -1) = false := beq_eq_false_iff_ne.2 (by omega)
  have hin : (i : Int) < (H.length : Int) := by omega
  unfold maxLen at hcm
  generalize (atH H i).st = s at *
  generalize H.length = n at *
  clear h hrow hs hd hfz
  go_enter Tryd.func57, Tryd.ntmps57
  go_wp2_with (go_at_call 85; refine hnx.mono ?_; rintro e w' ⟨rfl, hw'⟩; subst w')
  go_ret
  exact ⟨rfl, HE.out.1, HE.out.2⟩
theorem fturn_w (h : FIn w A f e gd H L M) (i : Nat) (hi : i < H.length) (ev : Int) :
    Calls Tryd.prog 57 #[.pointer (some ⟨f, 0, none⟩), .int .i64 i, .int .i64 ev] w fun r w' => r = .returned (.bool (St.did (atH H i).st ev)) ∧ FIn w' A f e gd (tnH i ev H) L M ∧ Keep A w w' := fturn_n h i hi ev _ _ rfl rfl

theorem ffind_nil (x : ByteArray) (w : World) : Calls Tryd.prog 60 #[.pointer none, .string x] w fun r w' => r = .returned (.tuple #[.int .i64 (-1), .int .i64 1]) ∧ w' = w := by
  go_enter Tryd.func60, Tryd.ntmps60
  go_wp2
  go_ret2
  exact ⟨rfl, rfl⟩
theorem ffind_w (h : FIn w A f e gd H L M) (x : ByteArray) (hs : x.size ≤ maxLen) (P E : Int) (hE : errF x H = E) (hP : (if E = 0 then pl x H else -1) = P) :
    Calls Tryd.prog 60 #[.pointer (some ⟨f, 0, none⟩), .string x] w fun r w' => r = .returned (.tuple #[.int .i64 P, .int .i64 E]) ∧ Below w.heap.size w w' := by
  have hnm := name_any x hs w
  have hp := fplace_w h x
  unfold errF at hE
  cases h0 : nameB x with
  | false =>
    rw [h0, if_pos rfl] at hE
    subst hE
    rw [if_neg (by decide)] at hP
    subst hP
    rw [h0] at hnm
    clear h hp
    go_enter Tryd.func60, Tryd.ntmps60
    go_wp2_with (go_at_call 80; refine hnm.mono ?_; rintro e w' ⟨rfl, hw'⟩; subst w')
    go_ret2
    exact ⟨rfl, Below.refl _ _⟩
  | true =>
    rw [h0, if_neg (by simp)] at hE
    rw [h0] at hnm
    cases h1 : isH x H with
    | false =>
      rw [h1, if_pos rfl] at hE
      subst hE
      rw [if_neg (by decide)] at hP
      subst hP
      rw [pl_no h1] at hp
      clear h
      go_enter Tryd.func60, Tryd.ntmps60
      go_wp2_with (first
        | (go_at_call 80; refine hnm.mono ?_; rintro e w' ⟨rfl, hw'⟩; subst w')
        | (go_at_call 58; refine hp.mono ?_; rintro e w2 ⟨rfl, hb2⟩))
      go_ret2
      exact ⟨rfl, hb2⟩
    | true =>
      rw [h1, if_neg (by simp)] at hE
      subst hE
      rw [if_pos rfl] at hP
      subst hP
      rw [(pl_yes h1).1] at hp ⊢
      have hi0 : (((plN x H : Nat) : Int) == -1) = false := beq_eq_false_iff_ne.2 (by omega)
      generalize plN x H = p at *
      clear h
      go_enter Tryd.func60, Tryd.ntmps60
      go_wp2_with (first
        | (go_at_call 80; refine hnm.mono ?_; rintro e w' ⟨rfl, hw'⟩; subst w')
        | (go_at_call 58; refine hp.mono ?_; rintro e w2 ⟨rfl, hb2⟩))
      go_ret2
      exact ⟨rfl, hb2⟩
end

end Go.Proofs.YtmlkpfkeeifgeaaDoor
