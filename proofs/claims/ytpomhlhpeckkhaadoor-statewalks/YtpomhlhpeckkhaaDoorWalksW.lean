/-
  The walk of StateWalks: it returns true and turns nothing that was there. Conditions: the tables read as they are laid; the slices read as lists of ints.
-/
import Derived.Test.YtpomhlhpeckkhaaDoorApp
import Derived.BigRegion
namespace Go.Proofs.YtpomhlhpeckkhaaDoor
open Go.ChangeShapes Go.WideShapes Go.ChangeAt Go.RowKit

set_option maxHeartbeats 1000000 in
set_option maxRecDepth 100000 in
theorem walks_walk (s : Int) (a : Option Addr) (len cap : Nat) (zs : List Int) (a' : Option Addr) (len' cap' : Nat) (zs' : List Int) (w : World) (hn : Tabs w) (hr : IntsAt w a len cap zs) (hz : a = none → len = 0 ∧ cap = 0) (hr' : IntsAt w a' len' cap' zs') (hz' : a' = none → len' = 0 ∧ cap' = 0) :
    Calls Tryd.prog 7 #[.int .i64 s, .slice a len cap, .slice a' len' cap'] w fun e w' => e = .returned (.bool true) ∧ Below w.heap.size w w' := by
  have hle := hr.hle
  have hcap := hr.hcap
  have hle' := hr'.hle
  have hcap' := hr'.hcap
  unfold maxLen at hcap hcap'
  obtain ⟨m, hm⟩ : ∃ m, min len 20 = m := ⟨_, rfl⟩
  obtain ⟨m', hm'⟩ : ∃ m', min len' 20 = m' := ⟨_, rfl⟩
  have hm2 : (if (20 : Int) < (len : Int) then (20 : Int) else (len : Int)) = (m : Int) := by split <;> omega
  have hm2' : (if (20 : Int) < (len' : Int) then (20 : Int) else (len' : Int)) = (m' : Int) := by split <;> omega
  have h20 : m ≤ 20 := by omega
  have h20' : m' ≤ 20 := by omega
  have hmc : m ≤ cap := by omega
  have hmc' : m' ≤ cap' := by omega
  have HR : Hid (IntsAt w a m cap (zs.take m)) := hr.take (by omega)
  have HR' : Hid (IntsAt w a' m' cap' (zs'.take m')) := hr'.take (by omega)
  have HZ : Hid (a = none → m = 0 ∧ cap = 0) := by
    intro h
    obtain ⟨h1, h2⟩ := hz h
    exact ⟨by omega, h2⟩
  have HZ' : Hid (a' = none → m' = 0 ∧ cap' = 0) := by
    intro h
    obtain ⟨h1, h2⟩ := hz' h
    exact ⟨by omega, h2⟩
  have HN : Hid (Tabs w) := hn
  clear hr hr' hz hz' hn hm hm'
  obtain ⟨A, hA⟩ : ∃ A, zs.take m = A := ⟨_, rfl⟩
  obtain ⟨B, hB⟩ : ∃ B, zs'.take m' = B := ⟨_, rfl⟩
  rw [hA] at HR
  rw [hB] at HR'
  clear hA hB zs zs'
  obtain ⟨S, hS⟩ : ∃ S, wrap64 ((IntKind.u64.wrap s).tmod 4) = S := ⟨_, rfl⟩
  go_enter Tryd.func7, Tryd.ntmps7
  go_wp2_with fail
  refine (lives_any w HN.out).mono ?_
  rintro e w1 ⟨rfl, hb⟩
  have HB : Hid _ := hb
  have HR1 : Hid _ := HR.out.below hb
  have HR1' : Hid _ := HR'.out.below hb
  have HN1 : Hid _ := HN.out.below hb
  clear hb HN HR HR'
  go_wp2
  rw [hS]
  clear hS
  go_region
  have hbd : Below w1.heap.size w1 w1.drew := (Below.refl _ _).drew
  have HB2 : Hid (Below w.heap.size w w1.drew) := HB.out.trans (hbd.mono HB.out.size)
  have HR2 : Hid _ := HR1.out.below hbd
  have HR2' : Hid _ := HR1'.out.below hbd
  have HN2 : Hid _ := HN1.out.below hbd
  clear hbd HB HR1 HR1' HN1 hm2 hm2'
  generalize w1.drew = w2 at *
  obtain ⟨Z, hZ⟩ : ∃ Z, A ++ B = Z := ⟨_, rfl⟩
  have HC : Hid _ := hZ
  clear hZ
  go_wp2_with (at_builtin; refine wpList_ints _ rfl _ _ rfl w2.heap.size _ 0 [] A A rfl (World.ownsRow_nil _ _ _ _) a m cap rfl HR2.out HZ.out (by omega) (Nat.le_refl _) rfl m (by omega) ?_)
  intro v1 w3 hown3 hgr3
  have hb3 : Below w2.heap.size w2 w3 := (Below.refl _ w2).grown hgr3 (Nat.le_refl _) (fun j hj => by simp [Value.ownBlock] at hj)
  have HR3' : Hid _ := HR2'.out.below hb3
  have HS3 : Hid (w2.heap.size ≤ w3.heap.size) := hb3.size
  obtain ⟨L, hL⟩ : ∃ L, L = m + m' := ⟨_, rfl⟩
  have HL : Hid (L = m + m') := hL
  have hL40 : L ≤ 40 := by omega
  have HB3 : Hid _ := hb3
  clear hgr3 hb3 hL
  go_wp2_with (at_builtin; refine wpList_ints _ rfl _ _ rfl w2.heap.size _ m A B Z rfl hown3 a' m' cap' rfl HR3'.out HZ'.out (by omega) HS3.out HC.out L HL.out ?_)
  intro v2 w4 hown4 hgr4
  have hb4 : Below w2.heap.size w2 w4 := HB3.out.grown hgr4 HS3.out (fun j hj => (hown3.lt j hj).1)
  have HB4 : Hid (Below w.heap.size w w4) := HB2.out.trans (hb4.mono HB2.out.size)
  have HR4 : Hid _ := HR2.out.below hb4
  have HR4' : Hid _ := HR2'.out.below hb4
  have HN4 : Hid _ := HN2.out.below hb4
  obtain ⟨a2, cap2, rfl, hZ4, -⟩ := owns_ints hown4
  have HZ4 : Hid _ := hZ4
  have hle2 := hZ4.hle
  have hcap2 := hZ4.hcap
  unfold maxLen at hcap2
  clear hgr4 hb4 hown3 hown4 hZ4 HB2 HB3 HR2 HR2' HR3' HN2 HS3 HZ HZ' HL
  go_wp2
  go_loopw [8, 9, 10] (fun vd vn vi wr => ∃ k : Nat, k ≤ L ∧ vi = .int .i64 k ∧ vn = .int .i64 (wk S (Z.take k)) ∧ wr.ownsRow w4.heap.size 3 1 vd (wn S (Z.take k)) (ic (wd S (Z.take k))) ∧ Below w4.heap.size w4 wr) (fun _ _ vi _ => L - (intOf vi).toNat)
  case atStart => exact ⟨0, Nat.zero_le _, rfl, rfl, World.ownsRow_nil _ _ _ _, Below.refl _ _⟩
  case round =>
    obtain ⟨k, hk, rfl, rfl, hown, hbr⟩ := hrel
    have hnk : wn S (Z.take k) ≤ k := by have := wn_le S (Z.take k); rw [List.length_take] at this; omega
    obtain ⟨C, hC⟩ : ∃ C, wk S (Z.take k) = C := ⟨_, rfl⟩
    obtain ⟨M, hM⟩ : ∃ M, wn S (Z.take k) = M := ⟨_, rfl⟩
    have HNr : Hid _ := HN4.out.below hbr
    have hZr := HZ4.out.below hbr
    by_cases hlt : k < L
    · obtain ⟨b, off, rfl, _, hcell⟩ := hZr.at_ k hlt
      have hZl : k < Z.length := by have := hZr.hlen; omega
      obtain ⟨x, hx⟩ : ∃ x, Z.getD k 0 = x := ⟨_, rfl⟩
      rw [hx] at hcell
      obtain ⟨T, hT⟩ : ∃ T, nx C x = T := ⟨_, rfl⟩
      obtain ⟨D, hD⟩ : ∃ D, wd S (Z.take k) = D := ⟨_, rfl⟩
      have hS1 : wk S (Z.take (k + 1)) = T := by rw [take_snoc Z k hZl, wk_snoc, hC, hx, hT]
      rw [hM, hD] at hown
      rw [hM] at hnk
      rw [hC]
      cases hd : did C x with
      | true =>
        have HS1 : Hid (wk S (Z.take (k + 1)) = T ∧ wn S (Z.take (k + 1)) = M + 1 ∧ wd S (Z.take (k + 1)) = D ++ [x]) := by
          refine ⟨hS1, ?_, ?_⟩
          · rw [take_snoc Z k hZl, wn_snoc, hC, hx, hM, if_pos hd]
          · rw [take_snoc Z k hZl, wd_snoc, hC, hx, hD, if_pos hd]
        have HT : Hid _ := hT
        have HD : Hid _ := hd
        have HZr : Hid _ := hZr
        have HBr : Hid _ := hbr
        clear hS1 hT hd hx hC hM hD hZr hbr hZl
        go_wp2_with (first
          | (go_at_call 9; refine (next_n _ _ _ HNr.out _ _ HT.out HD.out).mono ?_; rintro e w' ⟨rfl, hw⟩; obtain rfl : wr = w' := hw.symm; clear hw)
          | (at_builtin; refine wpList_ints _ rfl _ _ rfl w4.heap.size _ M D [x] (D ++ [x]) rfl (hown.alloc _) _ 1 1 rfl (one_at wr x) (fun h => by cases h) (by omega) (by have := HBr.out.size; simp; omega) rfl (M + 1) rfl ?_))
        intro v5 w5 hown5 hgr5
        have hb5 : Below w4.heap.size w4 w5 := (HBr.out.alloc HBr.out.size _).grown hgr5 (by have := HBr.out.size; simp; omega) (fun j hj => (hown.lt j hj).1)
        clear hgr5 hown
        go_wp2
        go_roundw
        case rel => exact ⟨k + 1, by omega, by go_num, by rw [HS1.out.1], by rw [HS1.out.2.1, HS1.out.2.2]; exact hown5, hb5⟩
        case measure => simp [intOf]; omega
      | false =>
        have HS1 : Hid (wk S (Z.take (k + 1)) = T ∧ wn S (Z.take (k + 1)) = M ∧ wd S (Z.take (k + 1)) = D) := by
          refine ⟨hS1, ?_, ?_⟩
          · rw [take_snoc Z k hZl, wn_snoc, hC, hx, hM, hd]
            rfl
          · rw [take_snoc Z k hZl, wd_snoc, hC, hx, hD, hd]
            simp
        have HT : Hid _ := hT
        have HD : Hid _ := hd
        have HBr : Hid _ := hbr
        clear hS1 hT hd hx hC hM hD hZr hbr hZl
        go_wp2_with (first
          | (go_at_call 9; refine (next_n _ _ _ HNr.out _ _ HT.out HD.out).mono ?_; rintro e w' ⟨rfl, hw⟩; obtain rfl : wr = w' := hw.symm; clear hw))
        go_roundw
        case rel => exact ⟨k + 1, by omega, by go_num, by rw [HS1.out.1], by rw [HS1.out.2.1, HS1.out.2.2]; exact hown, HBr.out⟩
        case measure => simp [intOf]; omega
    · obtain rfl : k = L := by omega
      have eZ : Z.take k = Z := List.take_of_length_le (by have := hZr.hlen; omega)
      rw [eZ] at hC hM hown hnk
      rw [eZ, hC]
      obtain ⟨D, hD⟩ : ∃ D, wd S Z = D := ⟨_, rfl⟩
      rw [hM, hD] at hown
      obtain ⟨a5, cap5, rfl, hD5, -⟩ := owns_ints hown
      obtain ⟨X1, hX1⟩ : ∃ X1, wk S A = X1 := ⟨_, rfl⟩
      obtain ⟨n1, hn1⟩ : ∃ n1, wn S A = n1 := ⟨_, rfl⟩
      obtain ⟨m1, hm1⟩ : ∃ m1, wn X1 B = m1 := ⟨_, rfl⟩
      have HX : Hid (wk X1 B = C) := by rw [← hC, ← HC.out, wk_append, hX1]; exact rfl
      have hMM : M = n1 + m1 := by rw [← hM, ← HC.out, wn_append, hX1, hn1, hm1]
      have hsame := wd_same S Z
      rw [hD, hC, hM] at hsame
      have hMs : wn S Z = M := hM
      have HA : Hid (wk S A = X1 ∧ wn S A = n1 ∧ wn X1 B = m1 ∧ wk S Z = C ∧ wn S Z = M ∧ wk S D = C ∧ wn S D = M) := ⟨hX1, hn1, hm1, hC, hM, hsame.1, hsame.2⟩
      have HRr : Hid _ := HR4.out.below hbr
      have HRr' : Hid _ := HR4'.out.below hbr
      have HZr : Hid _ := hZr
      have HDr : Hid _ := hD5
      have HBr : Hid _ := hbr
      have hn1k : (n1 : Int) ≤ 40 := by omega
      have hm1k : (m1 : Int) ≤ 40 := by omega
      have hE : ((n1 : Int) + (m1 : Int) == (M : Int)) = true := by rw [hMM]; simp
      clear hC hM hMs hX1 hn1 hm1 hsame hZr hD5 hbr hown hMM hD eZ
      go_wp2_with fail
      refine (walk_n S a m cap A _ HNr.out HRr.out X1 n1 HA.out.1 HA.out.2.1).mono ?_
      rintro e w' ⟨rfl, hw⟩
      obtain rfl : wr = w' := hw.symm
      go_wp2_with fail
      refine (walk_n X1 a' m' cap' B _ HNr.out HRr'.out C m1 HX.out HA.out.2.2.1).mono ?_
      rintro e w' ⟨rfl, hw⟩
      obtain rfl : wr = w' := hw.symm
      go_wp2_with fail
      refine (walk_n S a2 k cap2 Z _ HNr.out HZr.out C M HA.out.2.2.2.1 HA.out.2.2.2.2.1).mono ?_
      rintro e w' ⟨rfl, hw⟩
      obtain rfl : wr = w' := hw.symm
      go_wp2_with fail
      refine (walk_n S a5 M cap5 D _ HNr.out HDr.out C M HA.out.2.2.2.2.2.1 HA.out.2.2.2.2.2.2).mono ?_
      rintro e w' ⟨rfl, hw⟩
      obtain rfl : wr = w' := hw.symm
      go_wp2
      go_ret
      exact ⟨rfl, HB4.out.trans (HBr.out.mono HB4.out.size)⟩

end Go.Proofs.YtpomhlhpeckkhaaDoor
