/-
  The states of FleetUndrains, one behind the other, as plain facts. Conditions: a list of good names, and one of it.
-/
import Derived.Test.YtmlkpfkeeifgeaaDoorFChain
namespace Go.Proofs.YtmlkpfkeeifgeaaDoor

section
variable {l : List ByteArray} {x : ByteArray}
def u0 (l : List ByteArray) : Fl := ⟨sta g0 l, [], []⟩
def u1 (l : List ByteArray) (x : ByteArray) : Fl := ⟨sta g0 l, [(x, 0)], []⟩
def u2 (l : List ByteArray) (x : ByteArray) : Fl := ⟨sta (up g0 x (1, false)) l, [], [(x, 9)]⟩
def u3 (l : List ByteArray) (x : ByteArray) : Fl := ⟨sta (up g0 x (3, false)) l, [], []⟩
theorem isIn_one (x : ByteArray) (d : Int) : isIn x [(x, d)] = true := isIn_iff.2 (by simp [nms])
theorem isIn_nil (x : ByteArray) : isIn x [] = false := isIn_not.2 (by simp [nms])
theorem wo_one (x : ByteArray) (d : Int) : wo x [(x, d)] = [] := by simp [wo]
theorem up_g0 (x : ByteArray) (p : Int × Bool) : up (up g0 x p) x (0, false) = g0 := by
  rw [up_up]
  exact up_self g0 x

theorem und_d1 (h0 : nameB x = true) (hx : x ∈ l) : drE x (u0 l) = 0 ∧ drS x (u0 l) = u1 l x := by
  have h1 : drE x (u0 l) = 0 := by
    unfold drE u0
    rw [if_pos (errF_sta h0 hx), ofN_sta hx]
    simp [g0, askE, h0, isIn_nil]
  refine ⟨h1, ?_⟩
  unfold drS
  rw [if_pos h1]
  simp [u0, u1, askL, h0, isIn_nil]
theorem und_d2 (h0 : nameB x = true) (hx : x ∈ l) : drE x (u1 l x) = 6 ∧ drS x (u1 l x) = u1 l x := by
  have h1 : drE x (u1 l x) = 6 := by
    unfold drE u1
    rw [if_pos (errF_sta h0 hx), ofN_sta hx]
    simp [g0, askE, h0, isIn_one]
  refine ⟨h1, ?_⟩
  unfold drS
  rw [h1]
  rfl
theorem und_a1 : plc x (nms (u1 l x).L) = 0 := by
  rw [plc_mem (by simp [u1, nms])]
  simp [u1, nms, fidx]
theorem may_yes {H : List Hs} {e : Int} (h : isH x H = true) : mayF x H e 0 = true := by
  unfold mayF
  rw [(pl_yes h).1]
  have h1 := (pl_yes h).2
  unfold Gd.mayB
  have h2 : Gd.has (hz H).length ((plN x H : Nat) : Int) = true := Gd.has_iff.2 ⟨by omega, by rw [hz_length]; omega⟩
  rw [h2, decide_eq_true (Gd.capI_lo _ _)]
  simp
theorem und_ad (hn : l.Nodup) (h0 : nameB x = true) (hx : x ∈ l) : adm 1 0 9 (u1 l x).H (u1 l x).L (u1 l x).M = (u2 l x, [x]) := by
  have hm : mayF (x, (0 : Int)).1 (sta g0 l) 1 0 = true := may_yes (isH_sta.2 hx)
  show adm 1 0 9 (sta g0 l) [(x, 0)] [] = _
  rw [adm_yes hm]
  show ((adm 1 0 9 (tnH (plN x (sta g0 l)) 0 (sta g0 l)) [] (begM x 9 [])).1, x :: (adm 1 0 9 (tnH (plN x (sta g0 l)) 0 (sta g0 l)) [] (begM x 9 [])).2) = _
  rw [tnH_sta hn hx]
  have e1 : St.nx (g0 x).1 0 = 1 := rfl
  have e2 : begM x 9 [] = [(x, 9)] := by
    unfold begM
    rw [if_neg (by rw [h0]; simp), if_neg (by rw [isIn_nil]; simp)]
    rfl
  rw [e1, e2]
  rfl
theorem und_em (hn : l.Nodup) (hx : x ∈ l) : emB x (u2 l x) = true ∧ emS x (u2 l x) = u3 l x := by
  have h1 : emB x (u2 l x) = true := by
    unfold emB u2
    rw [isH_sta.2 hx, ofN_sta hx, up_same]
    rfl
  refine ⟨h1, ?_⟩
  unfold emS
  rw [if_pos h1]
  show Fl.mk (if (ofN x (sta (up g0 x (1, false)) l)).lv = true then _ else tnH (plN x (sta (up g0 x (1, false)) l)) 4 (sta (up g0 x (1, false)) l)) [] (wo x [(x, 9)]) = _
  rw [ofN_sta hx, up_same, wo_one, tnH_sta hn hx, up_same, up_up]
  rfl
theorem und_u1 (h0 : nameB x = true) (hx : x ∈ l) : unE x (u1 l x) = 0 ∧ unS x (u1 l x) = u0 l := by
  have h1 : unE x (u1 l x) = 0 := by
    unfold unE u1
    rw [if_pos (errF_sta h0 hx), ofN_sta hx, isIn_one]
    rfl
  refine ⟨h1, ?_⟩
  unfold unS
  rw [if_pos h1]
  show Fl.mk (if isIn x [(x, 0)] = true then sta g0 l else _) (wo x [(x, 0)]) [] = _
  rw [isIn_one, if_pos rfl, wo_one]
  rfl
theorem und_u2 (hn : l.Nodup) (h0 : nameB x = true) (hx : x ∈ l) : unE x (u2 l x) = 0 ∧ unS x (u2 l x) = u0 l := by
  have h1 : unE x (u2 l x) = 0 := by
    unfold unE u2
    rw [if_pos (errF_sta h0 hx), ofN_sta hx, up_same, isIn_nil]
    rfl
  refine ⟨h1, ?_⟩
  unfold unS
  rw [if_pos h1]
  show Fl.mk (if isIn x [] = true then _ else tnH (plN x (sta (up g0 x (1, false)) l)) 1 (sta (up g0 x (1, false)) l)) [] (wo x [(x, 9)]) = _
  rw [isIn_nil, if_neg (by simp), tnH_sta hn hx, up_same, wo_one]
  have e1 : St.nx 1 1 = 0 := rfl
  rw [e1, up_g0]
  rfl
theorem und_u3 (hn : l.Nodup) (h0 : nameB x = true) (hx : x ∈ l) : unE x (u3 l x) = 0 ∧ unS x (u3 l x) = u0 l := by
  have h1 : unE x (u3 l x) = 0 := by
    unfold unE u3
    rw [if_pos (errF_sta h0 hx), ofN_sta hx, up_same, isIn_nil]
    rfl
  refine ⟨h1, ?_⟩
  unfold unS
  rw [if_pos h1]
  show Fl.mk (if isIn x [] = true then _ else tnH (plN x (sta (up g0 x (3, false)) l)) 1 (sta (up g0 x (3, false)) l)) [] [] = _
  rw [isIn_nil, if_neg (by simp), tnH_sta hn hx, up_same]
  have e1 : St.nx 3 1 = 0 := rfl
  rw [e1, up_g0]
  rfl
theorem und_u0 (h0 : nameB x = true) (hx : x ∈ l) : unE x (u0 l) = 8 ∧ unS x (u0 l) = u0 l := by
  have h1 : unE x (u0 l) = 8 := by
    unfold unE u0
    rw [if_pos (errF_sta h0 hx), ofN_sta hx, isIn_nil]
    rfl
  refine ⟨h1, ?_⟩
  unfold unS
  rw [h1]
  rfl
theorem und_st (hx : x ∈ l) : stF x (u0 l).H = 0 ∧ isH x (u0 l).H = true := ⟨stF_sta hx, isH_sta.2 hx⟩
theorem cap_g0 (hl : l.length ≤ 4000) : capF (u0 l).H 1 = l.length := by
  have h1 : (sta g0 l).length ≤ 4000 := by rw [sta_length]; exact hl
  show capF (sta g0 l) 1 = _
  rw [capF_one h1 (by decide) (by decide), hz_sta, act_all _ (by simp [g0]), List.length_map, Int.mul_one]
theorem u1_inv : Inv (u1 l x).L (u1 l x).M := ⟨by simp [u1, nms], by simp [u1, nms], by simp [u1, nms], by simp [u1]⟩
theorem u2_inv : Inv (u2 l x).L (u2 l x).M := ⟨by simp [u2, nms], by simp [u2, nms], by simp [u2, nms], by simp [u2]⟩
end
end Go.Proofs.YtmlkpfkeeifgeaaDoor
