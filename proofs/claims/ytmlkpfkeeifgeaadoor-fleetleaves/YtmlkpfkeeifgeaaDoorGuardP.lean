/-
  What a step, other than resolving and forcing, does to the capacity: it doesn't lower it below the guard. Conditions: the state is one that may be.
-/
import Derived.Test.YtmlkpfkeeifgeaaDoorInvP
namespace Go.Proofs.YtmlkpfkeeifgeaaDoor

theorem hz_erase : ∀ (H : List Hs) (k : Nat), hz (H.eraseIdx k) = (hz H).eraseIdx k
  | [], _ => rfl
  | _ :: _, 0 => rfl
  | h :: H, k + 1 => congrArg (h.st :: ·) (hz_erase H k)
theorem act_set0 (l : List Int) (k : Nat) : Gd.act l ≤ Gd.act (l.set k 0) := by
  induction l generalizing k with
  | nil => simp
  | cons x l ih =>
    cases k with
    | zero => simp only [List.set_cons_zero, Gd.act]; split <;> simp
    | succ k => have := ih k; simp only [List.set_cons_succ, Gd.act]; omega
theorem act_setn (l : List Int) (k : Nat) (v : Int) (h : ¬ l.getD k 0 = 0) : Gd.act l ≤ Gd.act (l.set k v) := by
  induction l generalizing k with
  | nil => simp
  | cons x l ih =>
    cases k with
    | zero =>
      have hx : ¬ x = 0 := by simpa using h
      simp only [List.set_cons_zero, Gd.act]
      rw [if_neg hx]
      split <;> omega
    | succ k => have := ih k (by simpa using h); simp only [List.set_cons_succ, Gd.act]; omega
theorem act_erase (l : List Int) (k : Nat) (h : ¬ l.getD k 0 = 0) : Gd.act l ≤ Gd.act (l.eraseIdx k) := by
  induction l generalizing k with
  | nil => simp
  | cons x l ih =>
    cases k with
    | zero =>
      have hx : ¬ x = 0 := by simpa using h
      simp only [List.eraseIdx_cons_zero, Gd.act]
      rw [if_neg hx]
      omega
    | succ k => have := ih k (by simpa using h); simp only [List.eraseIdx_cons_succ, Gd.act]; omega
theorem act_less (l : List Int) (k : Nat) (v : Int) : Gd.act l ≤ Gd.act (l.set k v) + 1 := by
  induction l generalizing k with
  | nil => simp
  | cons x l ih =>
    cases k with
    | zero => simp only [List.set_cons_zero, Gd.act]; split <;> split <;> omega
    | succ k => have := ih k; simp only [List.set_cons_succ, Gd.act]; omega
/-- The capacity is no less, or spares the guard. -/
def Up (H H' : List Hs) (e gd : Int) : Prop := (Gd.act (hz H) : Int) * e ≤ (Gd.act (hz H') : Int) * e ∨ gd ≤ (Gd.act (hz H') : Int) * e
section
variable {e gd : Int}
theorem Up.refl (H : List Hs) : Up H H e gd := .inl (Int.le_refl _)
theorem Up.of {H H' : List Hs} (h : Gd.act (hz H) ≤ Gd.act (hz H')) (he : 0 < e) : Up H H' e gd := .inl (Int.mul_le_mul_of_nonneg_right (by omega) (by omega))
theorem Up.trans {H G K : List Hs} (h : Up H G e gd) (k : Up G K e gd) : Up H K e gd := by
  unfold Up at *
  omega
theorem Up.tn0 {H : List Hs} {i : Nat} {ev : Int} (h : St.nx (atH H i).st ev = 0) (he : 0 < e) : Up H (tnH i ev H) e gd := by
  refine Up.of ?_ he
  unfold tnH
  rw [hz_setS, h]
  exact act_set0 _ _
theorem Up.tnn {H : List Hs} {i : Nat} {ev : Int} (h : ¬ (atH H i).st = 0) (he : 0 < e) : Up H (tnH i ev H) e gd := by
  refine Up.of ?_ he
  unfold tnH
  rw [hz_setS]
  exact act_setn _ _ _ (by rw [hz_getD]; exact h)
/-- One that may leave. -/
theorem Up.may {H : List Hs} {x : ByteArray} {ev : Int} (hx : isH x H = true) (hm : mayF x H e gd = true) (hl : H.length ≤ 4000) (he : 0 < e) (he2 : e ≤ 1000) : Up H (tnH (plN x H) ev H) e gd := by
  by_cases h0 : (atH H (plN x H)).st = 0
  · obtain ⟨p1, p2⟩ := pl_yes hx
    have hz0 : (hz H).getD (plN x H) 0 = 0 := by rw [hz_getD]; exact h0
    unfold mayF at hm
    rw [p1, Gd.mayB_act ⟨by omega, by rw [hz_length]; omega⟩ (by rw [Int.toNat_natCast]; exact hz0)] at hm
    have hact : 1 ≤ Gd.act (hz H) := by
      have := Gd.act_left (L := hz H) (k := plN x H) (by rw [hz_length]; exact p2) hz0
      omega
    have hle := Gd.act_le (hz H)
    rw [hz_length] at hle
    rw [Gd.capI_small (by omega) (by omega) he2, Gd.pos_pos he] at hm
    have hm' := of_decide_eq_true hm
    have h1 := act_less (hz H) (plN x H) (St.nx (atH H (plN x H)).st ev)
    refine .inr ?_
    unfold tnH
    rw [hz_setS]
    have h2 : ((Gd.act (hz H) : Int) - 1) * e ≤ (Gd.act ((hz H).set (plN x H) (St.nx (atH H (plN x H)).st ev)) : Int) * e := Int.mul_le_mul_of_nonneg_right (by omega) (by omega)
    omega
  · exact Up.tnn h0 he
theorem up_adm (he : 0 < e) (he2 : e ≤ 1000) (d : Int) : ∀ (L M : List Dr) (H : List Hs), H.length ≤ 4000 → (∀ p ∈ L, mayF p.1 H e gd = true → isH p.1 H = true) → Up H (adm e gd d H L M).1.H e gd
  | [], M, H, _, _ => Up.refl _
  | p :: L, M, H, hl, hi => by
    unfold adm
    split
    · rename_i hm
      have hx := hi p (by simp) hm
      refine (Up.may (ev := 0) hx hm hl he he2).trans (up_adm he he2 d L _ _ (by rw [tnH_length]; exact hl) fun q _ hq => ?_)
      unfold mayF at hq
      by_cases hq2 : isH q.1 (tnH (plN p.1 H) 0 H) = true
      · exact hq2
      · rw [pl_no (by simpa using hq2), Gd.mayB_out (by omega)] at hq
        cases hq
    · exact Up.refl _
theorem up_step {s : Fl} (h : W s) (he : 0 < e) (he2 : e ≤ 1000) (hl : s.H.length ≤ 1900) (k n : Int) (x : ByteArray) (q : List ByteArray) (hk0 : ¬ k = 0) (hk3 : ¬ k = 3) : Up s.H (stp e gd k n x q s).s.H e gd := by
  have hw := h
  obtain ⟨l, g, hs, hg⟩ := hw
  unfold stp
  rw [if_neg hk0]
  split
  · show Up s.H (drS x s).H e gd
    unfold drS
    split <;> exact Up.refl _
  split
  · show Up s.H (unS x s).H e gd
    unfold unS
    split
    · rename_i hu
      obtain ⟨u1, u2, u3⟩ := unE_zero hu
      show Up s.H (if _ then _ else _) e gd
      split
      · exact Up.refl _
      · rename_i hi
        rcases u3 with u3 | ⟨-, u3⟩
        · exact absurd u3 hi
        · rw [hs] at u1 u3
          have hx := (errF_in u1).2
          rw [ofN_sta hx] at u3
          have := did1_cases (hg.sr x hx) u3
          refine Up.tn0 ?_ he
          have h2 := ofN_sta (g := g) hx
          rw [← hs] at h2
          unfold ofN at h2
          rw [h2]
          exact this.2
    · exact Up.refl _
  split
  · show Up s.H (ejS x e gd s).H e gd
    unfold ejS
    split
    · rename_i hu
      obtain ⟨u1, u2, u3⟩ := ejE_zero hu
      exact Up.may (errF_ok u1).2 u3 (by omega) he he2
    · exact Up.refl _
  split
  · refine up_adm he he2 n s.L s.M s.H (by omega) fun p hp _ => ?_
    have := (hg.lw p.1 (by unfold nms; exact List.mem_map_of_mem hp)).1
    rw [hs]
    exact isH_sta.2 this
  split
  · show Up s.H (prS x s).H e gd
    unfold prS
    split
    · rename_i hu
      obtain ⟨u1, u2⟩ := prB_facts hs hu
      refine Up.tn0 ?_ he
      have h2 := ofN_sta (g := g) u1
      rw [← hs] at h2
      unfold ofN at h2
      rw [h2]
      exact (did3_cases (hg.sr x u1) u2).2
    · exact Up.refl _
  · show Up s.H (emS x s).H e gd
    unfold emS
    split
    · rename_i hu
      obtain ⟨u1, u2⟩ := emB_facts hs hu
      have h2 := ofN_sta (g := g) u1
      rw [← hs] at h2
      unfold ofN at h2
      have h3 := (did4_cases (hg.sr x u1) u2).1
      have h4 : ¬ (atH s.H (plN x s.H)).st = 0 := by rw [h2]; show ¬ (g x).1 = 0; omega
      show Up s.H (if _ then _ else _) e gd
      split
      · refine Up.of ?_ he
        have : hz (s.H.eraseIdx (plN x s.H)) = (hz s.H).eraseIdx (plN x s.H) := hz_erase _ _
        rw [this]
        exact act_erase _ _ (by rw [hz_getD]; exact h4)
      · exact Up.tnn h4 he
    · exact Up.refl _
theorem adm_len (e gd d : Int) : ∀ (L M : List Dr) (H : List Hs), (adm e gd d H L M).1.H.length = H.length
  | [], _, _ => rfl
  | p :: L, M, H => by
    unfold adm
    split
    · rw [adm_len e gd d L]; exact tnH_length _ _ _
    · rfl
/-- A step brings no more than 16 hosts. -/
theorem stp_len (e gd k n : Int) (x : ByteArray) (q : List ByteArray) (s : Fl) : (stp e gd k n x q s).s.H.length ≤ s.H.length + 16 := by
  unfold stp
  split
  · show (reS q n s).H.length ≤ _
    unfold reS
    split
    · rename_i h0
      have h1 := enS_len q (lvS q n s)
      have h2 : (lvS q n s).H.length ≤ s.H.length := lvH_len q s.H
      have := chk_len h0
      omega
    · omega
  split
  · show (drS x s).H.length ≤ _
    unfold drS
    split <;> simp
  split
  · show (unS x s).H.length ≤ _
    unfold unS
    split
    · show (if _ then _ else _ : List Hs).length ≤ _
      split
      · omega
      · rw [tnH_length]; omega
    · omega
  split
  · show (foS x n s).H.length ≤ _
    unfold foS
    split
    · show (tnH _ _ _).length ≤ _
      rw [tnH_length]; omega
    · omega
  split
  · show (ejS x e gd s).H.length ≤ _
    unfold ejS
    split
    · show (tnH _ _ _).length ≤ _
      rw [tnH_length]; omega
    · omega
  split
  · show (adm e gd n s.H s.L s.M).1.H.length ≤ _
    rw [adm_len]; omega
  split
  · show (prS x s).H.length ≤ _
    unfold prS
    split
    · show (tnH _ _ _).length ≤ _
      rw [tnH_length]; omega
    · omega
  · show (emS x s).H.length ≤ _
    unfold emS
    split
    · show (if _ then _ else _ : List Hs).length ≤ _
      split
      · have := List.length_eraseIdx_le s.H (plN x s.H); omega
      · rw [tnH_length]; omega
    · omega
end
end Go.Proofs.YtmlkpfkeeifgeaaDoor
