/-
  What the document's own Serve does, as a contract. Conditions: the hosts lie where they are said to lie, their numbers within 1000.
-/
import Derived.Test.YtdiifnakmemadaaApi
import Derived.Test.YtdiifnakmemadaaRows2
import Derived.Test.YtdiifnakmemadaaRSum
namespace Go.Proofs.Ytdiifnakmemadaa
open Go.ChangeShapes Go.WideShapes Go.ChangeAt Go.RowKit

theorem Small.at_ {hs : List Hs} (h : Small hs) (j : Nat) : -1000 ≤ (hs.getD j z0).mg ∧ (hs.getD j z0).mg ≤ 1000 ∧ -1000 ≤ (hs.getD j z0).id ∧ (hs.getD j z0).id ≤ 1000 ∧ -1000 ≤ (hs.getD j z0).bz ∧ (hs.getD j z0).bz ≤ 1000 := by
  by_cases hj : j < hs.length
  · have e : hs.getD j z0 = hs[j] := by simp [List.getD, hj]
    rw [e]
    exact h _ (List.getElem_mem hj)
  · have e : hs.getD j z0 = z0 := by simp [List.getD, hj]
    rw [e]
    exact ⟨by decide, by decide, by decide, by decide, by decide, by decide⟩

/-- The place so far; -1: there is none. -/
def neg (o : Option Nat) : Int := match o with | none => -1 | some p => (p : Int)
theorem neg_ans (o : Option Nat) : ans o = .tuple #[.int .i64 (if neg o < 0 then 0 else neg o), .bool (decide (0 ≤ neg o))] := by
  cases o with
  | none => rfl
  | some p =>
    have h1 : ¬ ((p : Nat) : Int) < 0 := by omega
    have h2 : (0 : Int) ≤ ((p : Nat) : Int) := by omega
    show ans (some p) = .tuple #[.int .i64 (if ((p : Nat) : Int) < 0 then 0 else ((p : Nat) : Int)), .bool (decide (0 ≤ ((p : Nat) : Int)))]
    rw [if_neg h1, decide_eq_true h2]
    rfl

set_option maxHeartbeats 1000000 in
set_option maxRecDepth 100000 in
theorem RServe_any (w : World) (a : Option Addr) (len cap : Nat) (hs : List Hs) (h : HostsAt w a len cap hs) (hsm : Small hs) :
    Calls Try.prog 11 #[.slice a len cap] w fun e w' => e = .returned (ans (lst servesH busyH hs len)) ∧ Below w.heap.size w w' := by
  have hle := h.hle
  have hc := h.hcap
  unfold maxLen at hc
  have HH := Hid.mk' h
  have HA : Hid (∀ P, neg (lst servesH busyH hs len) = P → _) := fun P hP => (neg_ans (lst servesH busyH hs len)).trans (by rw [hP])
  generalize ans (lst servesH busyH hs len) = A at *
  clear h
  go_enter Try.func11, Try.ntmps11
  go_wp2
  go_loopw [4, 5] (fun v4 v5 wr => ∃ i : Nat, v5 = .int .i64 i ∧ i ≤ len ∧ v4 = .int .i64 (neg (lst servesH busyH hs i)) ∧ Below w.heap.size w wr) (fun _ v5 _ => len + 1 - (intOf v5).toNat)
  case atStart => exact ⟨0, rfl, Nat.zero_le _, rfl, Below.refl _ _⟩
  case round =>
    obtain ⟨i, rfl, hi, rfl, hbl⟩ := hrel
    by_cases h1 : i < len
    · obtain ⟨b, off, rfl, hlt, c0, c1, c2, c3, c4⟩ := (HH.out.below hbl).rd i h1
      have hno := lst_no servesH busyH hs i
      have hnew := lst_new servesH busyH hs i
      have hless := lst_less servesH busyH hs i
      have hmore := lst_more servesH busyH hs i
      have hplt := lst_lt servesH busyH hs i
      have hrp : ∀ p, p < i → HC wr b (off + p * 5) (hs.getD p z0) := fun p hp => by
        obtain ⟨b', off', e, _, hx⟩ := (HH.out.below hbl).rd p (by omega)
        cases e
        exact hx
      have hsp := fun p => hsm.at_ (hs := hs) p
      obtain ⟨_, _, _, _, s1, s2⟩ := hsp i
      generalize hs.getD i z0 = h at *
      obtain ⟨s, m, d, bz, y⟩ := h
      simp only [] at c0 c1 c2 c3 c4 s1 s2
      have HB := Hid.mk' hbl
      have hkn : (i : Int) < (len : Int) := by omega
      clear hbl c1 c4
      obtain ⟨P, hP⟩ : ∃ P, neg (lst servesH busyH hs i) = P := ⟨_, rfl⟩
      cases hs0 : (s == 0) with
      | false =>
        have HE : Hid (neg (lst servesH busyH hs (i + 1)) = P) := by
          show _ = _
          rw [hno (by simp [servesH, hs0]), hP]
        rw [hP]
        clear hno hnew hless hmore hplt hrp hsp hP
        go_wp2_with fail
        go_quiet (fail)
        go_wp2
        exact ⟨⟨i + 1, by simp, by omega, by rw [HE.out], below_trans HB.out (below_drewN _ _)⟩, by simp [intOf]; omega⟩
      | true =>
        by_cases hd : 0 < d
        · have hm : servesH ⟨s, m, d, bz, y⟩ = true := by simp [servesH, hs0, hd]
          cases hl : lst servesH busyH hs i with
          | none =>
            have HE : Hid (neg (lst servesH busyH hs (i + 1)) = (i : Int)) := by
              show _ = _
              rw [hnew hm hl]
              rfl
            have hP1 : neg none = -1 := rfl
            rw [hP1]
            clear hno hnew hless hmore hplt hrp hsp hP hl hP1
            go_wp2_with fail
            go_quiet (fail)
            go_wp2
            exact ⟨⟨i + 1, by simp, by omega, by rw [HE.out], below_trans HB.out (below_drewN _ _)⟩, by simp [intOf]; omega⟩
          | some p =>
            have hpi := hplt p hl
            obtain ⟨_, _, _, x3, _⟩ := hrp p hpi
            have hsp2 := (hsp p).2.2.2.2
            have hls := hless p hm hl
            have hmr := hmore p hm hl
            clear hno hnew hless hmore hplt hrp hsp hP
            generalize hs.getD p z0 = h2 at *
            obtain ⟨s2', m2, d2, b2, y2⟩ := h2
            simp only [] at x3 hsp2
            have hB1 := busyH_of s m d bz y (by omega)
            have hB2 := busyH_of s2' m2 d2 b2 y2 (by omega)
            obtain ⟨T1, q1⟩ : ∃ T1, (if bz < 0 then 0 else bz) = T1 := ⟨_, rfl⟩
            obtain ⟨T2, q2⟩ : ∃ T2, (if b2 < 0 then 0 else b2) = T2 := ⟨_, rfl⟩
            have e1 : max bz 0 = T1 := by omega
            have e2 : max b2 0 = T2 := by omega
            rw [hB1, hB2, e1, e2] at hls hmr
            have hpl : (p : Int) < (len : Int) := by omega
            have hp0 : ¬ (p : Int) < 0 := by omega
            have hp1 : neg (some p) = (p : Int) := rfl
            rw [hp1]
            by_cases hlt2 : T1 < T2
            · have HE : Hid (neg (lst servesH busyH hs (i + 1)) = (i : Int)) := by
                show _ = _
                rw [hls hlt2]
                rfl
              clear hls hmr hB1 hB2 e1 e2 hl hp1 hsp2 s1 s2
              go_wp2_with fail
              go_quiet (fail)
              go_wp2
              exact ⟨⟨i + 1, by simp, by omega, by rw [HE.out], below_trans HB.out (below_drewN _ _)⟩, by simp [intOf]; omega⟩
            · have HE : Hid (neg (lst servesH busyH hs (i + 1)) = (p : Int)) := by
                show _ = _
                rw [hmr (by omega)]
                rfl
              clear hls hmr hB1 hB2 e1 e2 hl hp1 hsp2 s1 s2
              go_wp2_with fail
              go_quiet (fail)
              go_wp2
              exact ⟨⟨i + 1, by simp, by omega, by rw [HE.out], below_trans HB.out (below_drewN _ _)⟩, by simp [intOf]; omega⟩
        · have hm : servesH ⟨s, m, d, bz, y⟩ = false := by simp [servesH, hd]
          have HE : Hid (neg (lst servesH busyH hs (i + 1)) = P) := by
            show _ = _
            rw [hno hm, hP]
          rw [hP]
          have hd2 : decide (0 < d) = false := decide_eq_false hd
          clear hno hnew hless hmore hplt hrp hsp hP hm
          go_wp2_with fail
          go_quiet (fail)
          go_wp2
          exact ⟨⟨i + 1, by simp, by omega, by rw [HE.out], below_trans HB.out (below_drewN _ _)⟩, by simp [intOf]; omega⟩
    · obtain rfl : i = len := by omega
      have HB := Hid.mk' hbl
      have HA2 := Hid.mk' (HA.out _ rfl)
      generalize neg (lst servesH busyH hs i) = P at *
      clear hbl HA
      obtain ⟨q, hq⟩ : ∃ q, (if P < 0 then 0 else P) = q := ⟨_, rfl⟩
      rw [hq] at HA2
      go_wp2
      go_ret2
      exact ⟨by rw [HA2.out]; rfl, HB.out⟩

end Go.Proofs.Ytdiifnakmemadaa
