/-
  What down of container/heap does over an order: the entry at the place goes down till it is ahead of none below; it tells whether it moved. Conditions: the order lies behind the pointer; all but that place are in order.
-/
import Derived.Test.YtahdeliopmkpmaaUp
namespace Go.Proofs.Ytahdeliopmkpmaa
open Go.ChangeShapes Go.WideShapes Go.ChangeAt Go.RowKit

/-- What down leaves. -/
def Went (A : Nat → Prop) (ov : Value) (L : List Ent) (n i0 : Nat) (w : World) (m : Bool) (w' : World) : Prop :=
  ∃ L', OIn w' A ov L' ∧ L'.Perm L ∧ L'.length = L.length ∧ (m = true → HeapN n L') ∧ (m = false → UpI n L' i0) ∧ (∀ k, n ≤ k → nth L' k = nth L k) ∧ Keep A w w'

/-- On the way down. -/
def Going (A : Nat → Prop) (ov : Value) (L : List Ent) (n i0 : Nat) (w : World) (i : Nat) (L' : List Ent) (wr : World) : Prop :=
  OIn wr A ov L' ∧ L'.Perm L ∧ L'.length = L.length ∧ DownI n L' i0 i ∧ (∀ k, n ≤ k → nth L' k = nth L k) ∧ Keep A w wr

theorem Going.stop {A : Nat → Prop} {ov : Value} {L L' : List Ent} {n i0 i : Nat} {w wr : World} (h : Going A ov L n i0 w i L' wr) (hi : i0 ≤ i) (hs : ∀ c, 0 < c → c < n → (c - 1) / 2 = i → Ge (nth L' c) (nth L' i)) :
    Went A ov L n i0 w (decide (i0 < i)) wr := by
  obtain ⟨ho, hp, hl, hd, hk, hkeep⟩ := h
  obtain ⟨h1, h2⟩ := hd.stop hs
  refine ⟨L', ho, hp, hl, fun hm => h1 ?_, fun hm => h2 ?_, hk, hkeep⟩
  · simp at hm; omega
  · simp at hm; omega

theorem Going.drewN {A : Nat → Prop} {ov : Value} {L L' : List Ent} {n i0 i : Nat} {w wr : World} (h : Going A ov L n i0 w i L' wr) (q : Nat) : Going A ov L n i0 w i L' (wr.drewN q) := by
  obtain ⟨ho, hp, hl, hd, hk, hkeep⟩ := h
  exact ⟨ho.drewN q, hp, hl, hd, hk, hkeep.drewN q⟩

theorem Going.step {A : Nat → Prop} {ov : Value} {L L' : List Ent} {n i0 i j : Nat} {w wr w2 : World} (h : Going A ov L n i0 w i L' wr) (hj : (j - 1) / 2 = i) (j0 : 0 < j) (jn : j < n) (hn : n ≤ L.length) (hl : ltE (nth L' j) (nth L' i) = true)
    (hmin : ∀ c, 0 < c → c < n → (c - 1) / 2 = i → Ge (nth L' c) (nth L' j)) {q : Nat} (ho2 : OIn w2 A ov (swp L' i j)) (hk2 : Keep A (wr.drewN q) w2) : Going A ov L n i0 w j (swp L' i j) w2 := by
  obtain ⟨ho, hp, hlen, hd, hk, hkeep⟩ := h
  refine ⟨ho2, (swp_perm (by omega) (by omega)).trans hp, (swp_length _ _ _).trans hlen, hd.step hj j0 jn (by omega) hl hmin, fun k hk' => ?_, (hkeep.drewN q).trans hk2⟩
  rw [nth_swp (by omega) (by omega), if_neg (by omega), if_neg (by omega)]
  exact hk k hk'

set_option maxHeartbeats 2000000 in
set_option maxRecDepth 100000 in
theorem down_any (A : Nat → Prop) (g : Nat) (ov : Value) (L : List Ent) (n i0 : Nat) (w : World) (h : OIn w A ov L) (hg : A g) (hc : w.cell? ⟨g, 1, none⟩ = some ov) (hn : n ≤ L.length) (hl : L.length ≤ 1000) (hi0 : i0 ≤ n) (hd : DownI n L i0 i0) :
    Calls Try.prog 43 #[.iface 68 (.pointer (some ⟨g, 1, none⟩)), .int .i64 i0, .int .i64 n] w fun e w' => ∃ m, e = .returned (.bool m) ∧ Went A ov L n i0 w m w' := by
  have hn1 : n ≤ 1000 := by omega
  have HN : Hid (n ≤ L.length) := hn
  clear hn hl
  go_enter Try.func43, Try.ntmps43
  go_wp2
  go_loopw [7] (fun vi wr => ∃ (i : Nat) (L' : List Ent), vi = .int .i64 i ∧ i0 ≤ i ∧ i ≤ n ∧ Going A ov L n i0 w i L' wr) (fun vi _ => n - (intOf vi).toNat)
  case atStart => exact ⟨i0, L, rfl, Nat.le_refl _, hi0, h, List.Perm.refl _, rfl, hd, fun _ _ => rfl, Keep.refl _ _⟩
  case round =>
    obtain ⟨i, L', rfl, hi1, hi2, hgo⟩ := hrel
    have ho := hgo.1
    have hlen := hgo.2.2.1
    have hkeep := hgo.2.2.2.2.2
    have hnl : n ≤ L'.length := by rw [hlen]; exact HN.out
    have mL := fun q => m_less ((hkeep.drewN q).cell hc hg)
    have mL0 := m_less (hkeep.cell hc hg)
    have mS := fun q => m_swap ((hkeep.drewN q).cell hc hg)
    have s1 : 2 * (i : Int) + 1 = ((2 * i + 1 : Nat) : Int) := by omega
    have s2 : ((2 * i + 1 : Nat) : Int) + 1 = ((2 * i + 2 : Nat) : Int) := by omega
    have hkid : ∀ c, 0 < c → (c - 1) / 2 = i → c = 2 * i + 1 ∨ c = 2 * i + 2 := fun c c0 cp => by omega
    have p1 : (2 * i + 1 - 1) / 2 = i := by omega
    have p2 : (2 * i + 2 - 1) / 2 = i := by omega
    have b1 : i < 2 * i + 1 := by omega
    have b3 : 2 * i + 1 ≤ 2001 := by omega
    have b2 : 2 * i + 1 < 2 * i + 2 := by omega
    have b4 : 2 * i + 2 ≤ 2002 := by omega
    have HK : Hid (∀ c, 0 < c → (c - 1) / 2 = i → c = 2 * i + 1 ∨ c = 2 * i + 2) := hkid
    have HP : Hid ((2 * i + 1 - 1) / 2 = i ∧ (2 * i + 2 - 1) / 2 = i) := ⟨p1, p2⟩
    clear hkid p1 p2 hlen hkeep
    generalize 2 * i + 1 = j1 at s1 s2 HK HP b1 b2 b3
    generalize 2 * i + 2 = j2 at s2 HK HP b2 b4
    by_cases c1 : n ≤ j1
    · clear mL mL0 mS
      go_wp2
      go_ret
      exact ⟨_, rfl, hgo.stop hi1 (fun c c0 cn cp => by have := HK.out c c0 cp; omega)⟩
    · have c3 : j1 < n := by omega
      clear c1
      by_cases c2 : j2 < n
      · cases l1 : ltE (nth L' j2) (nth L' j1) with
        | true =>
          cases l2 : ltE (nth L' j2) (nth L' i) with
          | true =>
            go_wp2_with (first
              | (go_at_call 96; refine (less_any A ov L' _ _ _ ho (by omega) (by omega)).mono ?_; rintro e w' ⟨rfl, q, rfl⟩)
              | (go_at_call 96; refine (less_any A ov L' _ _ _ (ho.drewN _) (by omega) (by omega)).mono ?_; rintro e w' ⟨rfl, q2, rfl⟩)
              | (go_at_call 97; refine (swap_any A ov L' _ _ _ (ho.drewN _) (by omega) (by omega)).mono ?_; rintro e w2 ⟨rfl, ho2, hk2⟩))
            refine ⟨⟨j2, _, rfl, by omega, by omega, hgo.step HP.out.2 (by omega) c2 HN.out l2 (fun c c0 cn cp => ?_) ho2 hk2⟩, by simp [intOf]; omega⟩
            rcases HK.out c c0 cp with rfl | rfl
            · exact ge_of_lt l1
            · exact Ge.refl _
          | false =>
            go_wp2_with (first
              | (go_at_call 96; refine (less_any A ov L' _ _ _ ho (by omega) (by omega)).mono ?_; rintro e w' ⟨rfl, q, rfl⟩)
              | (go_at_call 96; refine (less_any A ov L' _ _ _ (ho.drewN _) (by omega) (by omega)).mono ?_; rintro e w' ⟨rfl, q2, rfl⟩))
            go_ret
            refine ⟨_, rfl, (hgo.drewN _).stop hi1 (fun c c0 cn cp => ?_)⟩
            rcases HK.out c c0 cp with rfl | rfl
            · exact (ge_of_lt l1).trans (ge_of_not l2)
            · exact ge_of_not l2
        | false =>
          cases l2 : ltE (nth L' j1) (nth L' i) with
          | true =>
            go_wp2_with (first
              | (go_at_call 96; refine (less_any A ov L' _ _ _ ho (by omega) (by omega)).mono ?_; rintro e w' ⟨rfl, q, rfl⟩)
              | (go_at_call 96; refine (less_any A ov L' _ _ _ (ho.drewN _) (by omega) (by omega)).mono ?_; rintro e w' ⟨rfl, q2, rfl⟩)
              | (go_at_call 97; refine (swap_any A ov L' _ _ _ (ho.drewN _) (by omega) (by omega)).mono ?_; rintro e w2 ⟨rfl, ho2, hk2⟩))
            refine ⟨⟨j1, _, rfl, by omega, by omega, hgo.step HP.out.1 (by omega) (by omega) HN.out l2 (fun c c0 cn cp => ?_) ho2 hk2⟩, by simp [intOf]; omega⟩
            rcases HK.out c c0 cp with rfl | rfl
            · exact Ge.refl _
            · exact ge_of_not l1
          | false =>
            go_wp2_with (first
              | (go_at_call 96; refine (less_any A ov L' _ _ _ ho (by omega) (by omega)).mono ?_; rintro e w' ⟨rfl, q, rfl⟩)
              | (go_at_call 96; refine (less_any A ov L' _ _ _ (ho.drewN _) (by omega) (by omega)).mono ?_; rintro e w' ⟨rfl, q2, rfl⟩))
            go_ret
            refine ⟨_, rfl, (hgo.drewN _).stop hi1 (fun c c0 cn cp => ?_)⟩
            rcases HK.out c c0 cp with rfl | rfl
            · exact ge_of_not l2
            · exact (ge_of_not l1).trans (ge_of_not l2)
      · cases l2 : ltE (nth L' j1) (nth L' i) with
        | true =>
          go_wp2_with (first
            | (go_at_call 96; refine (less_any A ov L' _ _ _ ho (by omega) (by omega)).mono ?_; rintro e w' ⟨rfl, q, rfl⟩)
            | (go_at_call 97; refine (swap_any A ov L' _ _ _ (ho.drewN _) (by omega) (by omega)).mono ?_; rintro e w2 ⟨rfl, ho2, hk2⟩))
          refine ⟨⟨j1, _, rfl, by omega, by omega, hgo.step HP.out.1 (by omega) (by omega) HN.out l2 (fun c c0 cn cp => ?_) ho2 hk2⟩, by simp [intOf]; omega⟩
          rcases HK.out c c0 cp with rfl | rfl
          · exact Ge.refl _
          · omega
        | false =>
          go_wp2_with (first
            | (go_at_call 96; refine (less_any A ov L' _ _ _ ho (by omega) (by omega)).mono ?_; rintro e w' ⟨rfl, q, rfl⟩))
          go_ret
          refine ⟨_, rfl, (hgo.drewN _).stop hi1 (fun c c0 cn cp => ?_)⟩
          rcases HK.out c c0 cp with rfl | rfl
          · exact ge_of_not l2
          · omega

end Go.Proofs.Ytahdeliopmkpmaa
