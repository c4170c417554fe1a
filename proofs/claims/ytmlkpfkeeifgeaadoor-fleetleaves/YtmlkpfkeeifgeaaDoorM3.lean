/-
  Several texts in one: InvP, GuardP, PlaysP, StaysP.
-/
import Derived.Test.YtmlkpfkeeifgeaaDoorM1
import Derived.Test.YtmlkpfkeeifgeaaDoorM2
namespace Go.Proofs.YtmlkpfkeeifgeaaDoor

structure Wg (l : List ByteArray) (g : ByteArray → Int × Bool) (L M : List Dr) : Prop where
  nd : l.Nodup
  inv : Inv L M
  hg : ∀ x ∈ l, nameB x = true
  lw : ∀ x ∈ nms L, x ∈ l ∧ ((g x).1 = 0 ∨ (g x).1 = 2)
  mw : ∀ x ∈ nms M, x ∈ l ∧ (g x).1 = 1
  sr : ∀ x ∈ l, 0 ≤ (g x).1 ∧ (g x).1 ≤ 3
  lv : ∀ x ∈ l, (g x).2 = true → (g x).1 = 1
def W (s : Fl) : Prop := ∃ l g, s.H = sta g l ∧ Wg l g s.L s.M
theorem W.start : W ⟨[], [], []⟩ := ⟨[], g0, rfl, List.nodup_nil, Inv.nil, fun _ h => (by cases h), fun _ h => (by cases h), fun _ h => (by cases h), fun _ h => (by cases h), fun _ h => (by cases h)⟩
theorem errF_in {x : ByteArray} {g : ByteArray → Int × Bool} {l : List ByteArray} (h : errF x (sta g l) = 0) : nameB x = true ∧ x ∈ l := by
  have := errF_ok h
  exact ⟨this.1, isH_sta.1 this.2⟩

section
variable {l : List ByteArray} {g : ByteArray → Int × Bool} {L M : List Dr} {x : ByteArray} {e gd d n : Int}
/-- Another state of one host; one that waits, or is under way, fits it. -/
theorem Wg.upd (h : Wg l g L M) (hx : x ∈ l) {p : Int × Bool} (hp : 0 ≤ p.1 ∧ p.1 ≤ 3) (hl : p.2 = true → p.1 = 1) {L' M' : List Dr} (hv : Inv L' M') (hL : ∀ y ∈ nms L', y ∈ nms L ∨ y = x) (hM : ∀ y ∈ nms M', y ∈ nms M ∨ y = x) (hLx : x ∈ nms L' → p.1 = 0 ∨ p.1 = 2) (hMx : x ∈ nms M' → p.1 = 1) : Wg l (up g x p) L' M' := by
  refine ⟨h.nd, hv, h.hg, fun y hy => ?_, fun y hy => ?_, fun y hy => ?_, fun y hy hb => ?_⟩
  · by_cases e : y = x
    · subst e
      rw [up_same]
      exact ⟨hx, hLx hy⟩
    · rw [up_ne e]
      exact h.lw y ((hL y hy).resolve_right e)
  · by_cases e : y = x
    · subst e
      rw [up_same]
      exact ⟨hx, hMx hy⟩
    · rw [up_ne e]
      exact h.mw y ((hM y hy).resolve_right e)
  · by_cases e : y = x
    · subst e
      rw [up_same]
      exact hp
    · rw [up_ne e]
      exact h.sr y hy
  · by_cases e : y = x
    · subst e
      rw [up_same] at hb ⊢
      exact hl hb
    · rw [up_ne e] at hb ⊢
      exact h.lv y hy hb
theorem Wg.fewer (h : Wg l g L M) {L' M' : List Dr} (hv : Inv L' M') (hL : ∀ y ∈ nms L', y ∈ nms L) (hM : ∀ y ∈ nms M', y ∈ nms M) : Wg l g L' M' :=
  ⟨h.nd, hv, h.hg, fun y hy => h.lw y (hL y hy), fun y hy => h.mw y (hM y hy), h.sr, h.lv⟩
theorem mem_wo_sub {y : ByteArray} {L : List Dr} (h : y ∈ nms (wo x L)) : y ∈ nms L := (mem_wo.1 h).1
theorem beg_facts (h0 : nameB x = true) (hM : x ∉ nms M) : begL x L M = wo x L ∧ begM x d M = M ++ [(x, cut d)] := by
  have h1 : isIn x M = false := isIn_not.2 hM
  unfold begL begM
  rw [h0, h1]
  exact ⟨by simp, by simp⟩
theorem nms_snoc (M : List Dr) (x : ByteArray) (c : Int) : nms (M ++ [(x, c)]) = nms M ++ [x] := by simp [nms]

theorem W.drain {s : Fl} (h : W s) (x : ByteArray) : W (drS x s) := by
  by_cases hE : drE x s = 0
  · obtain ⟨h1, h2, h3, h4, _, h6⟩ := drE_zero hE
    rw [h6]
    obtain ⟨l, g, e1, hw⟩ := h
    have hx : x ∈ l := by
      unfold drE at hE
      split at hE
      · rename_i q
        rw [e1] at q
        exact (errF_in q).2
      · rename_i q
        exact absurd hE q
    rw [e1, ofN_sta hx] at h1
    have hs := hw.sr x hx
    refine ⟨l, g, e1, hw.nd, hw.inv.ask (isIn_not.1 h2) (isIn_not.1 h3) h4, hw.hg, fun y hy => ?_, hw.mw, hw.sr, hw.lv⟩
    rw [nms_snoc] at hy
    rcases List.mem_append.1 hy with hy | hy
    · exact hw.lw y hy
    · have : y = x := by simpa using hy
      subst this
      refine ⟨hx, ?_⟩
      dsimp only at h1
      omega
  · rw [drS_same hE]
    exact h
theorem unE_zero {s : Fl} (h : unE x s = 0) : errF x s.H = 0 ∧ (ofN x s.H).lv = false ∧ (isIn x s.L = true ∨ (isIn x s.L = false ∧ St.did (ofN x s.H).st 1 = true)) := by
  unfold unE at h
  split at h
  · rename_i h0
    refine ⟨h0, ?_⟩
    split at h
    · cases h
    · rename_i h1
      split at h
      · cases h
      · rename_i h2
        refine ⟨by simpa using h1, ?_⟩
        cases hi : isIn x s.L with
        | true => exact .inl rfl
        | false =>
          refine .inr ⟨rfl, ?_⟩
          cases hd : St.did (ofN x s.H).st 1 with
          | true => rfl
          | false => exact absurd ⟨hi, hd⟩ h2
  · rename_i h0
    exact absurd h h0
theorem did1_cases {t : Int} (h0 : 0 ≤ t ∧ t ≤ 3) (h : St.did t 1 = true) : (t = 1 ∨ t = 3) ∧ St.nx t 1 = 0 := by
  rcases St.four h0.1 h0.2 with rfl | rfl | rfl | rfl
  · cases h
  · exact ⟨.inl rfl, rfl⟩
  · cases h
  · exact ⟨.inr rfl, rfl⟩
theorem did3_cases {t : Int} (h0 : 0 ≤ t ∧ t ≤ 3) (h : St.did t 3 = true) : t = 2 ∧ St.nx t 3 = 0 := by
  rcases St.four h0.1 h0.2 with rfl | rfl | rfl | rfl
  · cases h
  · cases h
  · exact ⟨rfl, rfl⟩
  · cases h
theorem did4_cases {t : Int} (h0 : 0 ≤ t ∧ t ≤ 3) (h : St.did t 4 = true) : t = 1 ∧ St.nx t 4 = 3 := by
  rcases St.four h0.1 h0.2 with rfl | rfl | rfl | rfl
  · cases h
  · exact ⟨rfl, rfl⟩
  · cases h
  · cases h
theorem nx0_cases {t : Int} (h0 : 0 ≤ t ∧ t ≤ 3) (h : ¬ t = 3) : St.nx t 0 = 1 := by
  rcases St.four h0.1 h0.2 with rfl | rfl | rfl | rfl
  · rfl
  · rfl
  · rfl
  · exact absurd rfl h

theorem W.undrain {s : Fl} (h : W s) (x : ByteArray) : W (unS x s) := by
  by_cases hE : unE x s = 0
  · obtain ⟨h0, h1, h2⟩ := unE_zero hE
    unfold unS
    rw [if_pos hE]
    obtain ⟨l, g, e1, hw⟩ := h
    rw [e1] at h0 h1 h2 ⊢
    obtain ⟨hnm, hx⟩ := errF_in h0
    rw [ofN_sta hx] at h1 h2
    rcases h2 with h2 | ⟨h2, h3⟩
    · rw [if_pos h2]
      exact ⟨l, g, rfl, hw.fewer (hw.inv.ended x) (fun y hy => mem_wo_sub hy) (fun y hy => mem_wo_sub hy)⟩
    · rw [if_neg (by rw [h2]; simp), tnH_sta hw.nd hx]
      obtain ⟨-, h4⟩ := did1_cases (hw.sr x hx) h3
      rw [h4]
      refine ⟨l, _, rfl, hw.upd hx (p := (0, (g x).2)) (by simp) (fun hb => ?_) (hw.inv.ended x) (fun y hy => .inl (mem_wo_sub hy)) (fun y hy => .inl (mem_wo_sub hy)) (fun _ => .inl rfl) (fun hm => absurd rfl (mem_wo.1 hm).2)⟩
      dsimp only at hb h1
      rw [h1] at hb
      cases hb
  · unfold unS
    rw [if_neg hE]
    exact h
theorem W.force {s : Fl} (h : W s) (x : ByteArray) (d : Int) : W (foS x d s) := by
  by_cases hE : foE x s = 0
  · unfold foS
    rw [if_pos hE]
    obtain ⟨l, g, e1, hw⟩ := h
    have h0 : errF x s.H = 0 ∧ ¬ (ofN x s.H).st = 3 := by
      unfold foE at hE
      split at hE
      · rename_i q
        split at hE
        · cases hE
        · rename_i q2
          exact ⟨q, q2⟩
      · rename_i q
        exact absurd hE q
    rw [e1] at h0 ⊢
    obtain ⟨hnm, hx⟩ := errF_in h0.1
    have h3 := h0.2
    rw [ofN_sta hx] at h3
    have hMx : x ∉ nms (wo x s.M) := fun hm => (mem_wo.1 hm).2 rfl
    have hb := beg_facts (L := wo x s.L) (d := d) hnm hMx
    have hiv := (hw.inv.ended x).begun x d
    rw [hb.1, hb.2] at hiv ⊢
    rw [tnH_sta hw.nd hx, nx0_cases (hw.sr x hx) h3]
    refine ⟨l, _, rfl, hw.upd hx (p := (1, (g x).2)) (by simp) (fun _ => rfl) hiv (fun y hy => .inl (mem_wo_sub (mem_wo_sub hy))) (fun y hy => ?_) (fun hm => absurd rfl (mem_wo.1 hm).2) (fun _ => rfl)⟩
    rw [nms_snoc] at hy
    rcases List.mem_append.1 hy with hy | hy
    · exact .inl (mem_wo_sub hy)
    · exact .inr (by simpa using hy)
  · unfold foS
    rw [if_neg hE]
    exact h
theorem ejE_zero {s : Fl} (h : ejE x e gd s = 0) : errF x s.H = 0 ∧ (ofN x s.H).st = 0 ∧ mayF x s.H e gd = true := by
  unfold ejE at h
  split at h
  · rename_i q
    split at h
    · rename_i q2
      split at h
      · rename_i q3
        exact ⟨q, q2, q3⟩
      · cases h
    · cases h
  · rename_i q
    exact absurd h q
theorem W.eject {s : Fl} (h : W s) (x : ByteArray) (e gd : Int) : W (ejS x e gd s) := by
  by_cases hE : ejE x e gd s = 0
  · obtain ⟨h0, h1, -⟩ := ejE_zero hE
    unfold ejS
    rw [if_pos hE]
    obtain ⟨l, g, e1, hw⟩ := h
    rw [e1] at h0 h1 ⊢
    obtain ⟨hnm, hx⟩ := errF_in h0
    rw [ofN_sta hx] at h1
    dsimp only at h1
    rw [tnH_sta hw.nd hx, h1]
    refine ⟨l, _, rfl, hw.upd hx (p := (2, (g x).2)) (by simp) (fun hb => ?_) hw.inv (fun y hy => .inl hy) (fun y hy => .inl hy) (fun _ => .inr rfl) (fun hm => ?_)⟩
    · have := hw.lv x hx hb
      omega
    · have := (hw.mw x hm).2
      omega
  · unfold ejS
    rw [if_neg hE]
    exact h
theorem prB_facts {s : Fl} (hs : s.H = sta g l) (h : prB x s = true) : x ∈ l ∧ St.did (g x).1 3 = true := by
  unfold prB at h
  rw [hs] at h
  simp only [Bool.and_eq_true] at h
  have hx := isH_sta.1 h.1
  rw [ofN_sta hx] at h
  exact ⟨hx, h.2⟩
theorem W.probe {s : Fl} (h : W s) (x : ByteArray) : W (prS x s) := by
  by_cases hE : prB x s = true
  · unfold prS
    rw [if_pos hE]
    obtain ⟨l, g, e1, hw⟩ := h
    obtain ⟨hx, hd⟩ := prB_facts e1 hE
    rw [e1]
    obtain ⟨h2, h3⟩ := did3_cases (hw.sr x hx) hd
    rw [tnH_sta hw.nd hx, h3]
    refine ⟨l, _, rfl, hw.upd hx (p := (0, (g x).2)) (by simp) (fun hb => ?_) hw.inv (fun y hy => .inl hy) (fun y hy => .inl hy) (fun _ => .inl rfl) (fun hm => ?_)⟩
    · have := hw.lv x hx hb
      omega
    · have := (hw.mw x hm).2
      omega
  · unfold prS
    rw [if_neg hE]
    exact h
theorem erase_sta {l : List ByteArray} (hn : l.Nodup) (hx : x ∈ l) (g : ByteArray → Int × Bool) : (sta g l).eraseIdx (plN x (sta g l)) = sta g (l.filter (fun y => !decide (y = x))) := by
  rw [plN_sta]
  induction l with
  | nil => cases hx
  | cons y l ih =>
    have hy : y ∉ l ∧ l.Nodup := by simpa using hn
    unfold fidx
    by_cases e : y = x
    · subst e
      rw [if_pos rfl]
      have : l.filter (fun z => !decide (z = y)) = l := List.filter_eq_self.2 (fun z hz => by
        have : z ≠ y := fun e => hy.1 (e ▸ hz)
        simp [this])
      simp [sta, this]
    · rw [if_neg e]
      have hm : x ∈ l := by
        rcases List.mem_cons.1 hx with h | h
        · exact absurd h.symm e
        · exact h
      have := ih hy.2 hm
      simp only [sta, List.map_cons, List.eraseIdx_cons_succ, List.filter_cons, e, decide_false, Bool.not_false, if_true] at this ⊢
      rw [this]
theorem emB_facts {s : Fl} (hs : s.H = sta g l) (h : emB x s = true) : x ∈ l ∧ St.did (g x).1 4 = true := by
  unfold emB at h
  rw [hs] at h
  simp only [Bool.and_eq_true] at h
  have hx := isH_sta.1 h.1
  rw [ofN_sta hx] at h
  exact ⟨hx, h.2⟩
theorem W.empty {s : Fl} (h : W s) (x : ByteArray) : W (emS x s) := by
  by_cases hE : emB x s = true
  · unfold emS
    rw [if_pos hE]
    obtain ⟨l, g, e1, hw⟩ := h
    obtain ⟨hx, hd⟩ := emB_facts e1 hE
    rw [e1, ofN_sta hx]
    obtain ⟨h2, h3⟩ := did4_cases (hw.sr x hx) hd
    cases hb : (g x).2 with
    | true =>
      rw [if_pos rfl, erase_sta hw.nd hx]
      have hw2 := hw.fewer (hw.inv.ended x) (fun y hy => mem_wo_sub hy) (fun y hy => mem_wo_sub hy)
      refine ⟨_, g, rfl, hw.nd.filter _, hw.inv.ended x, fun y hy => hw.hg y ((List.mem_filter.1 hy).1), fun y hy => ?_, fun y hy => ?_, fun y hy => hw.sr y ((List.mem_filter.1 hy).1), fun y hy => hw.lv y ((List.mem_filter.1 hy).1)⟩
      · have := hw2.lw y hy
        exact ⟨List.mem_filter.2 ⟨this.1, by simp [(mem_wo.1 hy).2]⟩, this.2⟩
      · have := hw2.mw y hy
        exact ⟨List.mem_filter.2 ⟨this.1, by simp [(mem_wo.1 hy).2]⟩, this.2⟩
    | false =>
      rw [if_neg (by simp), tnH_sta hw.nd hx, h3]
      refine ⟨l, _, rfl, hw.upd hx (p := (3, (g x).2)) (by simp) (fun q => ?_) (hw.inv.ended x) (fun y hy => .inl (mem_wo_sub hy)) (fun y hy => .inl (mem_wo_sub hy)) (fun hm => absurd rfl (mem_wo.1 hm).2) (fun hm => absurd rfl (mem_wo.1 hm).2)⟩
      dsimp only at q
      rw [hb] at q
      cases q
  · unfold emS
    rw [if_neg hE]
    exact h
/-- What one admission leaves. -/
theorem Wg.adm1 {p : Dr} (h : Wg l g (p :: L) M) (d : Int) : Wg l (up g p.1 (1, (g p.1).2)) L (begM p.1 d M) ∧ tnH (plN p.1 (sta g l)) 0 (sta g l) = sta (up g p.1 (1, (g p.1).2)) l ∧ p.1 ∈ l ∧ ((g p.1).1 = 0 ∨ (g p.1).1 = 2) := by
  obtain ⟨hx, hst⟩ := h.lw p.1 (by simp [nms])
  obtain ⟨hvt, hnt, hmt, hbl⟩ := h.inv.tail
  have hv2 : Inv L (begM p.1 d M) := by
    have := hvt.begun p.1 d
    rwa [hbl] at this
  refine ⟨h.upd hx (p := (1, (g p.1).2)) (by simp) (fun _ => rfl) hv2 (fun y hy => .inl (by simp [nms] at hy ⊢; exact .inr hy)) (fun y hy => ?_) (fun hm => absurd hm hnt) (fun _ => rfl), ?_, hx, hst⟩
  · rw [(beg_facts (L := L) (d := d) (h.hg _ hx) (isIn_not.1 hmt)).2, nms_snoc] at hy
    rcases List.mem_append.1 hy with hy | hy
    · exact .inl hy
    · exact .inr (by simpa using hy)
  · rw [tnH_sta h.nd hx, nx0_cases (h.sr _ hx) (by omega)]
theorem adm_W (e gd d : Int) : ∀ (L M : List Dr) (g : ByteArray → Int × Bool), Wg l g L M → W (adm e gd d (sta g l) L M).1
  | [], M, g, h => ⟨l, g, rfl, h⟩
  | p :: L, M, g, h => by
    cases hm : mayF p.1 (sta g l) e gd with
    | false =>
      rw [adm_no hm]
      exact ⟨l, g, rfl, h⟩
    | true =>
      rw [adm_yes hm, (h.adm1 d).2.1]
      exact adm_W e gd d L _ _ (h.adm1 d).1
theorem W.admit {s : Fl} (h : W s) (e gd d : Int) : W (adS e gd d s) := by
  obtain ⟨l, g, e1, hw⟩ := h
  unfold adS
  rw [e1]
  exact adm_W e gd d _ _ _ hw

theorem filter_lt {x : ByteArray} : ∀ {l : List ByteArray}, x ∈ l → (l.filter (fun y => !decide (y = x))).length + 1 ≤ l.length
  | [], h => by cases h
  | y :: l, h => by
    by_cases e : y = x
    · subst e
      have := List.length_filter_le (fun z => !decide (z = y)) l
      simp
      omega
    · have hm : x ∈ l := by
        rcases List.mem_cons.1 h with h | h
        · exact absurd h.symm e
        · exact h
      have := filter_lt hm
      simp [e]
      omega
theorem sub_len : ∀ {k l : List ByteArray}, k.Nodup → (∀ x ∈ k, x ∈ l) → k.length ≤ l.length
  | [], _, _, _ => Nat.zero_le _
  | x :: k, l, hn, h => by
    have hx : x ∉ k ∧ k.Nodup := by simpa using hn
    have h1 := filter_lt (h x (by simp))
    have h2 := sub_len (k := k) (l := l.filter (fun y => !decide (y = x))) hx.2 (fun y hy => List.mem_filter.2 ⟨h y (by simp [hy]), by
      have : y ≠ x := fun e => hx.1 (e ▸ hy)
      simp [this]⟩)
    simp
    omega
theorem W.few {s : Fl} (h : W s) (hl : s.H.length ≤ 1900) : Few s := by
  obtain ⟨l, g, e1, hw⟩ := h
  have h1 := sub_len (k := nms s.M) (l := l) hw.inv.n2 (fun x hx => (hw.mw x hx).1)
  rw [e1, sta_length] at hl
  rw [nms_length] at h1
  exact ⟨hw.inv, by rw [e1, sta_length]; exact hl, by omega, fun x hx => hw.hg x (by rwa [e1, hn_sta] at hx), fun x hx => hw.hg x (hw.lw x hx).1⟩

/-- Resolving: hosts leave. -/
theorem nx5_cases {t : Int} (h0 : 0 ≤ t ∧ t ≤ 3) (h : ¬ t = 3) : St.nx t 5 = 1 ∧ (St.did t 5 = false → t = 1) ∧ (St.did t 5 = true → t = 0 ∨ t = 2) := by
  rcases St.four h0.1 h0.2 with rfl | rfl | rfl | rfl
  · exact ⟨rfl, fun h => by (cases h), fun _ => .inl rfl⟩
  · exact ⟨rfl, fun _ => rfl, fun h => by (cases h)⟩
  · exact ⟨rfl, fun h => by (cases h), fun _ => .inr rfl⟩
  · exact absurd rfl h
/-- Names done (k) and names to come (l), the hosts of both. -/
theorem lv_W (q : List ByteArray) (d : Int) : ∀ (l k : List ByteArray) (g : ByteArray → Int × Bool) (L M : List Dr), Wg (k ++ l) g L M → ∃ k' g', lvH q (sta g l) = sta g' k' ∧ (∀ x ∈ k', x ∈ l) ∧ (∀ x ∈ k, g' x = g x) ∧ Wg (k ++ k') g' (lvL q d (sta g l) L M).1 (lvL q d (sta g l) L M).2
  | [], k, g, L, M, h => ⟨[], g, rfl, fun _ h => h, fun _ _ => rfl, by simpa [sta, lvL] using h⟩
  | x :: l, k, g, L, M, h => by
    have hx : x ∈ k ++ x :: l := by simp
    have hnd := h.nd
    have hxk : x ∉ k := fun hk => (List.nodup_append.1 hnd).2.2 x hk x (by simp) rfl
    have hxl : x ∉ l := by
      have := (List.nodup_append.1 hnd).2.1
      simpa using (List.nodup_cons.1 this).1
    have hs := h.sr x hx
    have hsp : sta g (x :: l) = ⟨x, (g x).1, (g x).2⟩ :: sta g l := rfl
    rw [hsp]
    by_cases hnow : lvNow q ⟨x, (g x).1, (g x).2⟩ = true
    · by_cases h3 : (g x).1 = 3
      · -- it is there no more
        have e1 : lvStay q ⟨x, (g x).1, (g x).2⟩ = [] := by unfold lvStay; rw [if_neg (by rw [hnow]; simp), if_pos h3]
        have e2 : lvBeg q ⟨x, (g x).1, (g x).2⟩ = false := by unfold lvBeg; simp [h3]
        have hxL : x ∉ nms L := fun hm => by have := (h.lw x hm).2; omega
        have hxM : x ∉ nms M := fun hm => by have := (h.mw x hm).2; omega
        have hw : Wg (k ++ l) g L M := by
          have hsub : ∀ y, y ∈ k ++ l → y ∈ k ++ x :: l := fun y hy => by
            rcases List.mem_append.1 hy with hy | hy
            · simp [hy]
            · simp [hy]
          have hin : ∀ y, y ∈ k ++ x :: l → y ≠ x → y ∈ k ++ l := fun y hy hne => by
            rcases List.mem_append.1 hy with hy | hy
            · simp [hy]
            · rcases List.mem_cons.1 hy with hy | hy
              · exact absurd hy hne
              · simp [hy]
          refine ⟨?_, h.inv, fun y hy => h.hg y (hsub y hy), fun y hy => ⟨hin y (h.lw y hy).1 (fun e => hxL (e ▸ hy)), (h.lw y hy).2⟩, fun y hy => ⟨hin y (h.mw y hy).1 (fun e => hxM (e ▸ hy)), (h.mw y hy).2⟩, fun y hy => h.sr y (hsub y hy), fun y hy => h.lv y (hsub y hy)⟩
          have := List.nodup_append.1 hnd
          exact List.nodup_append.2 ⟨this.1, (List.nodup_cons.1 this.2.1).2, fun a ha b hb => this.2.2 a ha b (by simp [hb])⟩
        obtain ⟨k', g', q1, q2, q3, q4⟩ := lv_W q d l k g L M hw
        refine ⟨k', g', ?_, fun y hy => by simp [q2 y hy], q3, ?_⟩
        · show lvStay q _ ++ lvH q (sta g l) = _
          rw [e1, q1]
          rfl
        · show Wg (k ++ k') g' (if lvBeg q _ = true then _ else _ : List Dr × List Dr).1 (if lvBeg q _ = true then _ else _ : List Dr × List Dr).2
          rw [e2, if_neg (by simp)]
          exact q4
      · obtain ⟨n1, n2, n3⟩ := nx5_cases hs h3
        have e1 : lvStay q ⟨x, (g x).1, (g x).2⟩ = [⟨x, 1, true⟩] := by unfold lvStay; rw [if_neg (by rw [hnow]; simp), if_neg h3, n1]
        have hupd : ∀ {L' M' : List Dr}, Inv L' M' → (∀ y ∈ nms L', y ∈ nms L ∨ y = x) → (∀ y ∈ nms M', y ∈ nms M ∨ y = x) → (x ∉ nms L') → Wg ((k ++ [x]) ++ l) (up g x (1, true)) L' M' := fun hv hL hM hLx => by
          have := h.upd hx (p := (1, true)) (by simp) (fun _ => rfl) hv hL hM (fun hm => absurd hm hLx) (fun _ => rfl)
          simpa using this
        have hgl : sta (up g x (1, true)) l = sta g l := sta_congr (fun y hy => up_ne (fun e => hxl (e ▸ hy)))
        have fin : ∀ L' M', Wg ((k ++ [x]) ++ l) (up g x (1, true)) L' M' → ∃ k' g', [⟨x, 1, true⟩] ++ lvH q (sta g l) = sta g' k' ∧ (∀ y ∈ k', y ∈ x :: l) ∧ (∀ y ∈ k, g' y = g y) ∧ Wg (k ++ k') g' (lvL q d (sta g l) L' M').1 (lvL q d (sta g l) L' M').2 := fun L' M' hw => by
          obtain ⟨k', g', q1, q2, q3, q4⟩ := lv_W q d l (k ++ [x]) (up g x (1, true)) L' M' hw
          rw [hgl] at q1 q4
          refine ⟨x :: k', g', ?_, ?_, ?_, by simpa using q4⟩
          · rw [q1]
            have := q3 x (by simp)
            rw [up_same] at this
            simp [sta, this]
          · intro y hy
            rcases List.mem_cons.1 hy with hy | hy
            · simp [hy]
            · simp [q2 y hy]
          · intro y hy
            rw [q3 y (by simp [hy]), up_ne (show y ≠ x from fun e => hxk (e ▸ hy))]
        cases hd : St.did (g x).1 5 with
        | true =>
          have e2 : lvBeg q ⟨x, (g x).1, (g x).2⟩ = true := by unfold lvBeg; rw [hnow, decide_eq_false h3, hd]; rfl
          have hxM : x ∉ nms M := fun hm => by have := (h.mw x hm).2; have := n3 hd; omega
          have hb := beg_facts (L := L) (d := d) (h.hg x hx) hxM
          have hv := h.inv.begun x d
          obtain ⟨k', g', q1, q2, q3, q4⟩ := fin _ _ (hupd hv (fun y hy => by
            rw [hb.1] at hy
            exact .inl (mem_wo_sub hy)) (fun y hy => by
            rw [hb.2, nms_snoc] at hy
            rcases List.mem_append.1 hy with hy | hy
            · exact .inl hy
            · exact .inr (by simpa using hy)) (by rw [hb.1]; exact fun hm => (mem_wo.1 hm).2 rfl))
          refine ⟨k', g', ?_, q2, q3, ?_⟩
          · show lvStay q _ ++ lvH q (sta g l) = _
            rw [e1]
            exact q1
          · show Wg (k ++ k') g' (if lvBeg q _ = true then _ else _ : List Dr × List Dr).1 (if lvBeg q _ = true then _ else _ : List Dr × List Dr).2
            rw [e2, if_pos rfl]
            exact q4
        | false =>
          have e2 : lvBeg q ⟨x, (g x).1, (g x).2⟩ = false := by unfold lvBeg; rw [hd]; simp
          have ht := n2 hd
          have hxL : x ∉ nms L := fun hm => by have := (h.lw x hm).2; omega
          obtain ⟨k', g', q1, q2, q3, q4⟩ := fin _ _ (hupd h.inv (fun y hy => .inl hy) (fun y hy => .inl hy) hxL)
          refine ⟨k', g', ?_, q2, q3, ?_⟩
          · show lvStay q _ ++ lvH q (sta g l) = _
            rw [e1]
            exact q1
          · show Wg (k ++ k') g' (if lvBeg q _ = true then _ else _ : List Dr × List Dr).1 (if lvBeg q _ = true then _ else _ : List Dr × List Dr).2
            rw [e2, if_neg (by simp)]
            exact q4
    · have hnow' : lvNow q ⟨x, (g x).1, (g x).2⟩ = false := by simpa using hnow
      have e1 : lvStay q ⟨x, (g x).1, (g x).2⟩ = [⟨x, (g x).1, (g x).2⟩] := by unfold lvStay; rw [if_pos hnow']
      have e2 : lvBeg q ⟨x, (g x).1, (g x).2⟩ = false := by unfold lvBeg; rw [hnow']; rfl
      obtain ⟨k', g', q1, q2, q3, q4⟩ := lv_W q d l (k ++ [x]) g L M (by simpa using h)
      refine ⟨x :: k', g', ?_, ?_, fun y hy => q3 y (by simp [hy]), ?_⟩
      · show lvStay q _ ++ lvH q (sta g l) = _
        have := q3 x (by simp)
        rw [e1, q1]
        simp [sta, this]
      · intro y hy
        rcases List.mem_cons.1 hy with hy | hy
        · simp [hy]
        · simp [q2 y hy]
      · show Wg (k ++ (x :: k')) g' (if lvBeg q _ = true then _ else _ : List Dr × List Dr).1 (if lvBeg q _ = true then _ else _ : List Dr × List Dr).2
        rw [e2, if_neg (by simp)]
        simpa using q4
theorem W.leave {s : Fl} (h : W s) (q : List ByteArray) (d : Int) : W (lvS q d s) := by
  obtain ⟨l, g, e1, hw⟩ := h
  obtain ⟨k', g', q1, q2, q3, q4⟩ := lv_W q d l [] g s.L s.M hw
  refine ⟨k', g', ?_, ?_⟩
  · show lvH q s.H = _
    rw [e1]
    exact q1
  · show Wg k' g' (lvL q d s.H s.L s.M).1 (lvL q d s.H s.L s.M).2
    rw [e1]
    exact q4
theorem W.enter1 {s : Fl} (h : W s) {x : ByteArray} (h0 : nameB x = true) : W (en1 x s) := by
  obtain ⟨l, g, e1, hw⟩ := h
  unfold en1
  rw [e1]
  cases hx : isH x (sta g l) with
  | false =>
    rw [if_pos rfl]
    have hxl := isH_sta'.1 hx
    have hc : sta (up g x (0, false)) l = sta g l := sta_congr (fun y hy => up_ne (fun e => hxl (e ▸ hy)))
    refine ⟨l ++ [x], up g x (0, false), ?_, ?_⟩
    · rw [sta_append, hc]
      simp [sta, up_same]
    · have hne : ∀ y, y ∈ l → y ≠ x := fun y hy e => hxl (e ▸ hy)
      refine ⟨List.nodup_append.2 ⟨hw.nd, by simp, fun a ha b hb => by
        have hbx : b = x := List.mem_singleton.1 hb
        rw [hbx]
        exact hne a ha⟩, hw.inv, fun y hy => ?_, fun y hy => ?_, fun y hy => ?_, fun y hy => ?_, fun y hy hb => ?_⟩
      · rcases List.mem_append.1 hy with hy | hy
        · exact hw.hg y hy
        · have : y = x := by simpa using hy
          rw [this]; exact h0
      · have := hw.lw y hy
        rw [up_ne (hne y this.1)]
        exact ⟨by simp [this.1], this.2⟩
      · have := hw.mw y hy
        rw [up_ne (hne y this.1)]
        exact ⟨by simp [this.1], this.2⟩
      · rcases List.mem_append.1 hy with hy | hy
        · rw [up_ne (hne y hy)]; exact hw.sr y hy
        · have : y = x := by simpa using hy
          rw [this, up_same]; simp
      · rcases List.mem_append.1 hy with hy | hy
        · rw [up_ne (hne y hy)] at hb ⊢; exact hw.lv y hy hb
        · have : y = x := by simpa using hy
          rw [this, up_same] at hb; cases hb
  | true =>
    have hxl := isH_sta.1 hx
    rw [if_neg (by simp), ofN_sta hxl]
    cases hb : (g x).2 with
    | false =>
      rw [if_neg (by simp)]
      exact ⟨l, g, e1, hw⟩
    | true =>
      rw [if_pos rfl, setV_sta hw.nd hxl]
      have hst := hw.lv x hxl hb
      have hpl : plN x (sta g l) = plN x (sta (up g x ((g x).1, false)) l) := by rw [plN_sta, plN_sta]
      rw [hpl, tnH_sta hw.nd hxl, up_same, up_up, hst]
      have e6 : St.nx 1 6 = 0 := rfl
      dsimp only
      rw [e6]
      exact ⟨l, _, rfl, hw.upd hxl (p := (0, false)) (by simp) (fun q => by cases q) (hw.inv.ended x) (fun y hy => .inl (mem_wo_sub hy)) (fun y hy => .inl (mem_wo_sub hy)) (fun _ => .inl rfl) (fun hm => absurd rfl (mem_wo.1 hm).2)⟩
theorem W.enter : ∀ {q : List ByteArray} {s : Fl}, W s → (∀ x ∈ q, nameB x = true) → W (enS q s)
  | [], _, h, _ => h
  | x :: q, _, h, hq => W.enter (q := q) (h.enter1 (hq x (by simp))) (fun y hy => hq y (by simp [hy]))
theorem chk_names {q : List ByteArray} (h : Df.chk q = 0) : ∀ x ∈ q, nameB x = true := by
  have h1 : ¬ 16 < q.length := by have := chk_len h; omega
  intro x hx
  cases hx0 : nameB x with
  | true => rfl
  | false =>
    have hi := (fidx_mem x q).2 hx
    have := Df.chk_name h1 hi (by rw [fidx_at x q hi]; exact hx0)
    omega
theorem W.resolve {s : Fl} (h : W s) (q : List ByteArray) (d : Int) : W (reS q d s) := by
  unfold reS
  split
  · rename_i h0
    exact (h.leave q d).enter (chk_names h0)
  · exact h
theorem W.step {s : Fl} (h : W s) (e gd k n : Int) (x : ByteArray) (q : List ByteArray) : W (stp e gd k n x q s).s := by
  unfold stp
  split; · exact h.resolve q n
  split; · exact h.drain x
  split; · exact h.undrain x
  split; · exact h.force x n
  split; · exact h.eject x e gd
  split; · exact h.admit e gd n
  split; · exact h.probe x
  exact h.empty x
end
end Go.Proofs.YtmlkpfkeeifgeaaDoor
namespace Go.Proofs.YtmlkpfkeeifgeaaDoor

theorem hz_erase : ∀ (H : List Hs) (k : Nat), hz (H.eraseIdx k) = (hz H).eraseIdx k
  | [], _ => rfl
  | _ :: _, 0 => rfl
  | h :: H, k + 1 => congrArg (h.st :: ·) (hz_erase H k)
theorem act_set0 (l : List Int) (k : Nat) : Gd.act l ≤ Gd.act (l.set k 0) := by
  induction l generalizing k with
  | nil => simp
  | cons x l ih =>
    cases k with
    | zero => simp only [List.set_cons_zero, Gd.act]; split <;> simp
    | succ k => have := ih k; simp only [List.set_cons_succ, Gd.act]; omega
theorem act_setn (l : List Int) (k : Nat) (v : Int) (h : ¬ l.getD k 0 = 0) : Gd.act l ≤ Gd.act (l.set k v) := by
  induction l generalizing k with
  | nil => simp
  | cons x l ih =>
    cases k with
    | zero =>
      have hx : ¬ x = 0 := by simpa using h
      simp only [List.set_cons_zero, Gd.act]
      rw [if_neg hx]
      split <;> omega
    | succ k => have := ih k (by simpa using h); simp only [List.set_cons_succ, Gd.act]; omega
theorem act_erase (l : List Int) (k : Nat) (h : ¬ l.getD k 0 = 0) : Gd.act l ≤ Gd.act (l.eraseIdx k) := by
  induction l generalizing k with
  | nil => simp
  | cons x l ih =>
    cases k with
    | zero =>
      have hx : ¬ x = 0 := by simpa using h
      simp only [List.eraseIdx_cons_zero, Gd.act]
      rw [if_neg hx]
      omega
    | succ k => have := ih k (by simpa using h); simp only [List.eraseIdx_cons_succ, Gd.act]; omega
theorem act_less (l : List Int) (k : Nat) (v : Int) : Gd.act l ≤ Gd.act (l.set k v) + 1 := by
  induction l generalizing k with
  | nil => simp
  | cons x l ih =>
    cases k with
    | zero => simp only [List.set_cons_zero, Gd.act]; split <;> split <;> omega
    | succ k => have := ih k; simp only [List.set_cons_succ, Gd.act]; omega
/-- The capacity is no less, or spares the guard. -/
def Up (H H' : List Hs) (e gd : Int) : Prop := (Gd.act (hz H) : Int) * e ≤ (Gd.act (hz H') : Int) * e ∨ gd ≤ (Gd.act (hz H') : Int) * e
section
variable {e gd : Int}
theorem Up.refl (H : List Hs) : Up H H e gd := .inl (Int.le_refl _)
theorem Up.of {H H' : List Hs} (h : Gd.act (hz H) ≤ Gd.act (hz H')) (he : 0 < e) : Up H H' e gd := .inl (Int.mul_le_mul_of_nonneg_right (by omega) (by omega))
theorem Up.trans {H G K : List Hs} (h : Up H G e gd) (k : Up G K e gd) : Up H K e gd := by
  unfold Up at *
  omega
theorem Up.tn0 {H : List Hs} {i : Nat} {ev : Int} (h : St.nx (atH H i).st ev = 0) (he : 0 < e) : Up H (tnH i ev H) e gd := by
  refine Up.of ?_ he
  unfold tnH
  rw [hz_setS, h]
  exact act_set0 _ _
theorem Up.tnn {H : List Hs} {i : Nat} {ev : Int} (h : ¬ (atH H i).st = 0) (he : 0 < e) : Up H (tnH i ev H) e gd := by
  refine Up.of ?_ he
  unfold tnH
  rw [hz_setS]
  exact act_setn _ _ _ (by rw [hz_getD]; exact h)
/-- One that may leave. -/
theorem Up.may {H : List Hs} {x : ByteArray} {ev : Int} (hx : isH x H = true) (hm : mayF x H e gd = true) (hl : H.length ≤ 4000) (he : 0 < e) (he2 : e ≤ 1000) : Up H (tnH (plN x H) ev H) e gd := by
  by_cases h0 : (atH H (plN x H)).st = 0
  · obtain ⟨p1, p2⟩ := pl_yes hx
    have hz0 : (hz H).getD (plN x H) 0 = 0 := by rw [hz_getD]; exact h0
    unfold mayF at hm
    rw [p1, Gd.mayB_act ⟨by omega, by rw [hz_length]; omega⟩ (by rw [Int.toNat_natCast]; exact hz0)] at hm
    have hact : 1 ≤ Gd.act (hz H) := by
      have := Gd.act_left (L := hz H) (k := plN x H) (by rw [hz_length]; exact p2) hz0
      omega
    have hle := Gd.act_le (hz H)
    rw [hz_length] at hle
    rw [Gd.capI_small (by omega) (by omega) he2, Gd.pos_pos he] at hm
    have hm' := of_decide_eq_true hm
    have h1 := act_less (hz H) (plN x H) (St.nx (atH H (plN x H)).st ev)
    refine .inr ?_
    unfold tnH
    rw [hz_setS]
    have h2 : ((Gd.act (hz H) : Int) - 1) * e ≤ (Gd.act ((hz H).set (plN x H) (St.nx (atH H (plN x H)).st ev)) : Int) * e := Int.mul_le_mul_of_nonneg_right (by omega) (by omega)
    omega
  · exact Up.tnn h0 he
theorem up_adm (he : 0 < e) (he2 : e ≤ 1000) (d : Int) : ∀ (L M : List Dr) (H : List Hs), H.length ≤ 4000 → (∀ p ∈ L, mayF p.1 H e gd = true → isH p.1 H = true) → Up H (adm e gd d H L M).1.H e gd
  | [], M, H, _, _ => Up.refl _
  | p :: L, M, H, hl, hi => by
    unfold adm
    split
    · rename_i hm
      have hx := hi p (by simp) hm
      refine (Up.may (ev := 0) hx hm hl he he2).trans (up_adm he he2 d L _ _ (by rw [tnH_length]; exact hl) fun q _ hq => ?_)
      unfold mayF at hq
      by_cases hq2 : isH q.1 (tnH (plN p.1 H) 0 H) = true
      · exact hq2
      · rw [pl_no (by simpa using hq2), Gd.mayB_out (by omega)] at hq
        cases hq
    · exact Up.refl _
theorem up_step {s : Fl} (h : W s) (he : 0 < e) (he2 : e ≤ 1000) (hl : s.H.length ≤ 1900) (k n : Int) (x : ByteArray) (q : List ByteArray) (hk0 : ¬ k = 0) (hk3 : ¬ k = 3) : Up s.H (stp e gd k n x q s).s.H e gd := by
  have hw := h
  obtain ⟨l, g, hs, hg⟩ := hw
  unfold stp
  rw [if_neg hk0]
  split
  · show Up s.H (drS x s).H e gd
    unfold drS
    split <;> exact Up.refl _
  split
  · show Up s.H (unS x s).H e gd
    unfold unS
    split
    · rename_i hu
      obtain ⟨u1, u2, u3⟩ := unE_zero hu
      show Up s.H (if _ then _ else _) e gd
      split
      · exact Up.refl _
      · rename_i hi
        rcases u3 with u3 | ⟨-, u3⟩
        · exact absurd u3 hi
        · rw [hs] at u1 u3
          have hx := (errF_in u1).2
          rw [ofN_sta hx] at u3
          have := did1_cases (hg.sr x hx) u3
          refine Up.tn0 ?_ he
          have h2 := ofN_sta (g := g) hx
          rw [← hs] at h2
          unfold ofN at h2
          rw [h2]
          exact this.2
    · exact Up.refl _
  split
  · show Up s.H (ejS x e gd s).H e gd
    unfold ejS
    split
    · rename_i hu
      obtain ⟨u1, u2, u3⟩ := ejE_zero hu
      exact Up.may (errF_ok u1).2 u3 (by omega) he he2
    · exact Up.refl _
  split
  · refine up_adm he he2 n s.L s.M s.H (by omega) fun p hp _ => ?_
    have := (hg.lw p.1 (by unfold nms; exact List.mem_map_of_mem hp)).1
    rw [hs]
    exact isH_sta.2 this
  split
  · show Up s.H (prS x s).H e gd
    unfold prS
    split
    · rename_i hu
      obtain ⟨u1, u2⟩ := prB_facts hs hu
      refine Up.tn0 ?_ he
      have h2 := ofN_sta (g := g) u1
      rw [← hs] at h2
      unfold ofN at h2
      rw [h2]
      exact (did3_cases (hg.sr x u1) u2).2
    · exact Up.refl _
  · show Up s.H (emS x s).H e gd
    unfold emS
    split
    · rename_i hu
      obtain ⟨u1, u2⟩ := emB_facts hs hu
      have h2 := ofN_sta (g := g) u1
      rw [← hs] at h2
      unfold ofN at h2
      have h3 := (did4_cases (hg.sr x u1) u2).1
      have h4 : ¬ (atH s.H (plN x s.H)).st = 0 := by rw [h2]; show ¬ (g x).1 = 0; omega
      show Up s.H (if _ then _ else _) e gd
      split
      · refine Up.of ?_ he
        have : hz (s.H.eraseIdx (plN x s.H)) = (hz s.H).eraseIdx (plN x s.H) := hz_erase _ _
        rw [this]
        exact act_erase _ _ (by rw [hz_getD]; exact h4)
      · exact Up.tnn h4 he
    · exact Up.refl _
theorem adm_len (e gd d : Int) : ∀ (L M : List Dr) (H : List Hs), (adm e gd d H L M).1.H.length = H.length
  | [], _, _ => rfl
  | p :: L, M, H => by
    unfold adm
    split
    · rw [adm_len e gd d L]; exact tnH_length _ _ _
    · rfl
/-- A step brings no more than 16 hosts. -/
theorem stp_len (e gd k n : Int) (x : ByteArray) (q : List ByteArray) (s : Fl) : (stp e gd k n x q s).s.H.length ≤ s.H.length + 16 := by
  unfold stp
  split
  · show (reS q n s).H.length ≤ _
    unfold reS
    split
    · rename_i h0
      have h1 := enS_len q (lvS q n s)
      have h2 : (lvS q n s).H.length ≤ s.H.length := lvH_len q s.H
      have := chk_len h0
      omega
    · omega
  split
  · show (drS x s).H.length ≤ _
    unfold drS
    split <;> simp
  split
  · show (unS x s).H.length ≤ _
    unfold unS
    split
    · show (if _ then _ else _ : List Hs).length ≤ _
      split
      · omega
      · rw [tnH_length]; omega
    · omega
  split
  · show (foS x n s).H.length ≤ _
    unfold foS
    split
    · show (tnH _ _ _).length ≤ _
      rw [tnH_length]; omega
    · omega
  split
  · show (ejS x e gd s).H.length ≤ _
    unfold ejS
    split
    · show (tnH _ _ _).length ≤ _
      rw [tnH_length]; omega
    · omega
  split
  · show (adm e gd n s.H s.L s.M).1.H.length ≤ _
    rw [adm_len]; omega
  split
  · show (prS x s).H.length ≤ _
    unfold prS
    split
    · show (tnH _ _ _).length ≤ _
      rw [tnH_length]; omega
    · omega
  · show (emS x s).H.length ≤ _
    unfold emS
    split
    · show (if _ then _ else _ : List Hs).length ≤ _
      split
      · have := List.length_eraseIdx_le s.H (plN x s.H); omega
      · rw [tnH_length]; omega
    · omega
end
end Go.Proofs.YtmlkpfkeeifgeaaDoor
namespace Go.Proofs.YtmlkpfkeeifgeaaDoor

/-- A host leaves, in the document's words. -/
def rlv (d : Int) (s : Fl) (x : ByteArray) : Fl :=
  let L1 := if isIn x s.L = true then wo x s.L else s.L
  let M1 := if isIn x s.L = true then wo x s.M else s.M
  if (ofN x s.H).st = 3 then ⟨s.H.eraseIdx (plN x s.H), L1, M1⟩
  else if St.did (ofN x s.H).st 5 = true then ⟨setV (tnH (plN x s.H) 5 s.H) (plN x s.H) true, begL x L1 M1, begM x d M1⟩
  else ⟨setV (tnH (plN x s.H) 5 s.H) (plN x s.H) true, L1, M1⟩

theorem filter_mid {x : ByteArray} {k l : List ByteArray} (hk : x ∉ k) (hl : x ∉ l) : (k ++ x :: l).filter (fun y => !decide (y = x)) = k ++ l := by
  have f1 : ∀ m : List ByteArray, x ∉ m → m.filter (fun y => !decide (y = x)) = m := fun m hm => List.filter_eq_self.2 fun y hy => by
    have : y ≠ x := fun e => hm (e ▸ hy)
    simp [this]
  rw [List.filter_append, List.filter_cons_of_neg (by simp), f1 k hk, f1 l hl]

/-- Hosts that leave, one behind the other: those done (k), those to come (l). -/
theorem rlv_all (q : List ByteArray) (d : Int) : ∀ (l k : List ByteArray) (g : ByteArray → Int × Bool) (L M : List Dr), Wg (k ++ l) g L M →
    (lvN q (sta g l)).foldl (rlv d) ⟨sta g (k ++ l), L, M⟩ = ⟨sta g k ++ lvH q (sta g l), (lvL q d (sta g l) L M).1, (lvL q d (sta g l) L M).2⟩
  | [], k, g, L, M, _ => by simp [sta, lvN, lvH, lvL]
  | x :: l, k, g, L, M, h => by
    have hx : x ∈ k ++ x :: l := by simp
    have hnd := h.nd
    have hxk : x ∉ k := fun hk => (List.nodup_append.1 hnd).2.2 x hk x (by simp) rfl
    have hxl : x ∉ l := by
      have := (List.nodup_append.1 hnd).2.1
      simpa using (List.nodup_cons.1 this).1
    have hs := h.sr x hx
    have hsp : sta g (x :: l) = ⟨x, (g x).1, (g x).2⟩ :: sta g l := rfl
    have e0 : lvN q (sta g (x :: l)) = (if lvNow q ⟨x, (g x).1, (g x).2⟩ = true then [x] else []) ++ lvN q (sta g l) := rfl
    have e1 : lvH q (sta g (x :: l)) = lvStay q ⟨x, (g x).1, (g x).2⟩ ++ lvH q (sta g l) := rfl
    have e2 : lvL q d (sta g (x :: l)) L M = if lvBeg q ⟨x, (g x).1, (g x).2⟩ = true then lvL q d (sta g l) (begL x L M) (begM x d M) else lvL q d (sta g l) L M := rfl
    by_cases hnow : lvNow q ⟨x, (g x).1, (g x).2⟩ = true
    · rw [e0, if_pos hnow]
      show (lvN q (sta g l)).foldl (rlv d) (rlv d ⟨sta g (k ++ x :: l), L, M⟩ x) = _
      by_cases h3 : (g x).1 = 3
      · have hxL : x ∉ nms L := fun hm => by have := (h.lw x hm).2; omega
        have hxM : x ∉ nms M := fun hm => by have := (h.mw x hm).2; omega
        have e3 : rlv d ⟨sta g (k ++ x :: l), L, M⟩ x = ⟨sta g (k ++ l), L, M⟩ := by
          unfold rlv
          show (if (ofN x (sta g (k ++ x :: l))).st = 3 then _ else _ : Fl) = _
          rw [ofN_sta hx, if_pos h3]
          show Fl.mk ((sta g (k ++ x :: l)).eraseIdx (plN x (sta g (k ++ x :: l)))) (if isIn x L = true then wo x L else L) (if isIn x L = true then wo x M else M) = _
          rw [isIn_not.2 hxL, if_neg (by simp), if_neg (by simp), erase_sta hnd hx, filter_mid hxk hxl]
        have hw : Wg (k ++ l) g L M := by
          have hsub : ∀ y, y ∈ k ++ l → y ∈ k ++ x :: l := fun y hy => by
            rcases List.mem_append.1 hy with hy | hy
            · simp [hy]
            · simp [hy]
          have hin : ∀ y, y ∈ k ++ x :: l → y ≠ x → y ∈ k ++ l := fun y hy hne => by
            rcases List.mem_append.1 hy with hy | hy
            · simp [hy]
            · rcases List.mem_cons.1 hy with hy | hy
              · exact absurd hy hne
              · simp [hy]
          refine ⟨?_, h.inv, fun y hy => h.hg y (hsub y hy), fun y hy => ⟨hin y (h.lw y hy).1 (fun e => hxL (e ▸ hy)), (h.lw y hy).2⟩, fun y hy => ⟨hin y (h.mw y hy).1 (fun e => hxM (e ▸ hy)), (h.mw y hy).2⟩, fun y hy => h.sr y (hsub y hy), fun y hy => h.lv y (hsub y hy)⟩
          have := List.nodup_append.1 hnd
          exact List.nodup_append.2 ⟨this.1, (List.nodup_cons.1 this.2.1).2, fun a ha b hb => this.2.2 a ha b (by simp [hb])⟩
        have e4 : lvStay q ⟨x, (g x).1, (g x).2⟩ = [] := by unfold lvStay; rw [if_neg (by rw [hnow]; simp), if_pos h3]
        have e5 : lvBeg q ⟨x, (g x).1, (g x).2⟩ = false := by unfold lvBeg; simp [h3]
        rw [e3, rlv_all q d l k g L M hw, e1, e2, e4, e5]
        rfl
      · obtain ⟨n1, n2, n3⟩ := nx5_cases hs h3
        have e4 : lvStay q ⟨x, (g x).1, (g x).2⟩ = [⟨x, 1, true⟩] := by unfold lvStay; rw [if_neg (by rw [hnow]; simp), if_neg h3, n1]
        have eH : setV (tnH (plN x (sta g (k ++ x :: l))) 5 (sta g (k ++ x :: l))) (plN x (sta g (k ++ x :: l))) true = sta (up g x (1, true)) (k ++ x :: l) := by
          rw [tnH_sta hnd hx, n1]
          have ep : plN x (sta g (k ++ x :: l)) = plN x (sta (up g x (1, (g x).2)) (k ++ x :: l)) := by rw [plN_sta, plN_sta]
          rw [ep, setV_sta hnd hx, up_up, up_same]
        have hgl : sta (up g x (1, true)) l = sta g l := sta_congr (fun y hy => up_ne (fun e => hxl (e ▸ hy)))
        have hgk : sta (up g x (1, true)) k = sta g k := sta_congr (fun y hy => up_ne (fun e => hxk (e ▸ hy)))
        have hsk : sta (up g x (1, true)) (k ++ [x]) = sta g k ++ [(⟨x, 1, true⟩ : Hs)] := by
          rw [sta_append, hgk]
          show _ ++ [(⟨x, (up g x (1, true) x).1, (up g x (1, true) x).2⟩ : Hs)] = _
          rw [up_same]
        have hupd : ∀ {L' M' : List Dr}, Inv L' M' → (∀ y ∈ nms L', y ∈ nms L ∨ y = x) → (∀ y ∈ nms M', y ∈ nms M ∨ y = x) → (x ∉ nms L') → Wg ((k ++ [x]) ++ l) (up g x (1, true)) L' M' := fun hv hL hM hLx => by
          have := h.upd hx (p := (1, true)) (by simp) (fun _ => rfl) hv hL hM (fun hm => absurd hm hLx) (fun _ => rfl)
          simpa using this
        have fin : ∀ L' M', Wg ((k ++ [x]) ++ l) (up g x (1, true)) L' M' → (lvN q (sta g l)).foldl (rlv d) ⟨sta (up g x (1, true)) (k ++ x :: l), L', M'⟩ = ⟨sta g k ++ ([(⟨x, 1, true⟩ : Hs)] ++ lvH q (sta g l)), (lvL q d (sta g l) L' M').1, (lvL q d (sta g l) L' M').2⟩ := fun L' M' hw => by
          have ih := rlv_all q d l (k ++ [x]) (up g x (1, true)) L' M' hw
          rw [hgl, hsk] at ih
          have ea : (k ++ [x]) ++ l = k ++ x :: l := by simp
          rw [ea] at ih
          rw [ih, List.append_assoc]
        cases hd : St.did (g x).1 5 with
        | true =>
          have e5 : lvBeg q ⟨x, (g x).1, (g x).2⟩ = true := by unfold lvBeg; rw [hnow, decide_eq_false h3, hd]; rfl
          have hxM : x ∉ nms M := fun hm => by have := (h.mw x hm).2; have := n3 hd; omega
          have hb := beg_facts (L := L) (d := d) (h.hg x hx) hxM
          have hb2 := beg_facts (L := if isIn x L = true then wo x L else L) (d := d) (h.hg x hx) hxM
          have hM1 : (if isIn x L = true then wo x M else M) = M := by
            split
            · exact wo_not hxM
            · rfl
          have hL1 : wo x (if isIn x L = true then wo x L else L) = wo x L := by
            split
            · exact wo_not (fun hm => (mem_wo.1 hm).2 rfl)
            · rfl
          have e3 : rlv d ⟨sta g (k ++ x :: l), L, M⟩ x = ⟨sta (up g x (1, true)) (k ++ x :: l), begL x L M, begM x d M⟩ := by
            unfold rlv
            show (if (ofN x (sta g (k ++ x :: l))).st = 3 then _ else if St.did (ofN x (sta g (k ++ x :: l))).st 5 = true then _ else _ : Fl) = _
            rw [ofN_sta hx, if_neg h3, if_pos hd]
            show Fl.mk (setV (tnH (plN x (sta g (k ++ x :: l))) 5 (sta g (k ++ x :: l))) (plN x (sta g (k ++ x :: l))) true) (begL x (if isIn x L = true then wo x L else L) (if isIn x L = true then wo x M else M)) (begM x d (if isIn x L = true then wo x M else M)) = _
            rw [eH, hM1, hb2.1, hL1, ← hb.1]
          have hv := h.inv.begun x d
          rw [e3, fin _ _ (hupd hv (fun y hy => by
            rw [hb.1] at hy
            exact .inl (mem_wo_sub hy)) (fun y hy => by
            rw [hb.2, nms_snoc] at hy
            rcases List.mem_append.1 hy with hy | hy
            · exact .inl hy
            · exact .inr (by simpa using hy)) (by rw [hb.1]; exact fun hm => (mem_wo.1 hm).2 rfl)), e1, e2, e4, if_pos e5]
        | false =>
          have e5 : lvBeg q ⟨x, (g x).1, (g x).2⟩ = false := by unfold lvBeg; rw [hd]; simp
          have ht := n2 hd
          have hxL : x ∉ nms L := fun hm => by have := (h.lw x hm).2; omega
          have e3 : rlv d ⟨sta g (k ++ x :: l), L, M⟩ x = ⟨sta (up g x (1, true)) (k ++ x :: l), L, M⟩ := by
            unfold rlv
            show (if (ofN x (sta g (k ++ x :: l))).st = 3 then _ else if St.did (ofN x (sta g (k ++ x :: l))).st 5 = true then _ else _ : Fl) = _
            rw [ofN_sta hx, if_neg h3, if_neg (by rw [hd]; simp)]
            show Fl.mk (setV (tnH (plN x (sta g (k ++ x :: l))) 5 (sta g (k ++ x :: l))) (plN x (sta g (k ++ x :: l))) true) (if isIn x L = true then wo x L else L) (if isIn x L = true then wo x M else M) = _
            rw [eH, isIn_not.2 hxL, if_neg (by simp), if_neg (by simp)]
          rw [e3, fin _ _ (hupd h.inv (fun y hy => .inl hy) (fun y hy => .inl hy) hxL), e1, e2, e4, if_neg (by rw [e5]; simp)]
    · have hnow' : lvNow q ⟨x, (g x).1, (g x).2⟩ = false := by simpa using hnow
      have e4 : lvStay q ⟨x, (g x).1, (g x).2⟩ = [⟨x, (g x).1, (g x).2⟩] := by unfold lvStay; rw [if_pos hnow']
      have e5 : lvBeg q ⟨x, (g x).1, (g x).2⟩ = false := by unfold lvBeg; rw [hnow']; rfl
      have ih := rlv_all q d l (k ++ [x]) g L M (by simpa using h)
      have ea : (k ++ [x]) ++ l = k ++ x :: l := by simp
      rw [ea] at ih
      rw [e0, if_neg hnow, List.nil_append, ih, e1, e2, e4, if_neg (by rw [e5]; simp), sta_append, List.append_assoc]
      rfl
/-- All that leave, of a state that may be. -/
theorem W.rlv {s : Fl} (h : W s) (q : List ByteArray) (d : Int) : (lvN q s.H).foldl (rlv d) s = lvS q d s := by
  obtain ⟨l, g, e1, hw⟩ := h
  obtain ⟨H, L, M⟩ := s
  have e1' : H = sta g l := e1
  subst e1'
  have := rlv_all q d l [] g L M hw
  exact this
end Go.Proofs.YtmlkpfkeeifgeaaDoor
namespace Go.Proofs.YtmlkpfkeeifgeaaDoor
open Go.ChangeShapes Go.WideShapes Go.ChangeAt Go.RowKit

def pk (H : List Hs) : List (ByteArray × Bool) := H.map (fun h => (h.nm, h.lv))
theorem pk_setS : ∀ (H : List Hs) (i : Nat) (v : Int), pk (setS H i v) = pk H
  | [], _, _ => rfl
  | _ :: _, 0, _ => rfl
  | h :: H, i + 1, v => by
    have e : atH (h :: H) (i + 1) = atH H i := by simp [atH]
    have := pk_setS H i v
    unfold pk setS at this ⊢
    rw [e, List.set_cons_succ, List.map_cons, List.map_cons, this]
theorem pk_tnH (H : List Hs) (i : Nat) (ev : Int) : pk (tnH i ev H) = pk H := pk_setS _ _ _
/-- All of them stay. -/
def Ks (ns : List ByteArray) (s : Fl) : Prop := pk s.H = ns.map (fun x => (x, false))
section
variable {ns : List ByteArray} {s : Fl}
theorem Ks.hn (h : Ks ns s) : hn s.H = ns := by
  have h1 : Go.Proofs.YtmlkpfkeeifgeaaDoor.hn s.H = (pk s.H).map Prod.fst := by unfold Go.Proofs.YtmlkpfkeeifgeaaDoor.hn pk; rw [List.map_map]; rfl
  have h2 : (ns.map (fun x => (x, false))).map Prod.fst = ns := by
    rw [List.map_map]
    exact List.map_id' ns
  rw [h1, h, h2]
theorem Ks.lv (h : Ks ns s) : ∀ y ∈ s.H, y.lv = false ∧ y.nm ∈ ns := by
  intro y hy
  have h1 : (y.nm, y.lv) ∈ pk s.H := List.mem_map_of_mem (f := fun h : Hs => (h.nm, h.lv)) hy
  rw [h] at h1
  obtain ⟨x, hx, e⟩ := List.mem_map.1 h1
  have e1 : x = y.nm := congrArg Prod.fst e
  have e2 : false = y.lv := congrArg Prod.snd e
  exact ⟨e2.symm, e1 ▸ hx⟩
theorem Ks.of (h : Ks ns s) (x : ByteArray) : (ofN x s.H).lv = false := by
  unfold ofN
  by_cases hi : plN x s.H < s.H.length
  · rw [atH_eq hi]
    exact (h.lv _ (List.getElem_mem hi)).1
  · unfold atH
    have : s.H[plN x s.H]? = none := List.getElem?_eq_none (by omega)
    simp [List.getD, this]
    rfl
theorem pk_adm (e gd d : Int) : ∀ (L M : List Dr) (H : List Hs), pk (adm e gd d H L M).1.H = pk H
  | [], _, _ => rfl
  | p :: L, M, H => by
    unfold adm
    split
    · show pk (adm e gd d (tnH _ _ _) L _).1.H = _
      rw [pk_adm e gd d L, pk_tnH]
    · rfl
theorem Ks.step (h : Ks ns s) (e gd k n : Int) (x : ByteArray) (q : List ByteArray) (hk : ¬ k = 0) : Ks ns (stp e gd k n x q s).s := by
  have hof := h.of x
  unfold Ks at *
  rw [← h]
  unfold stp
  rw [if_neg hk]
  split
  · show pk (drS x s).H = _
    unfold drS
    split <;> rfl
  split
  · show pk (unS x s).H = _
    unfold unS
    split
    · show pk (if _ then _ else _ : List Hs) = _
      split
      · rfl
      · exact pk_tnH _ _ _
    · rfl
  split
  · show pk (foS x n s).H = _
    unfold foS
    split
    · exact pk_tnH _ _ _
    · rfl
  split
  · show pk (ejS x e gd s).H = _
    unfold ejS
    split
    · exact pk_tnH _ _ _
    · rfl
  split
  · exact pk_adm e gd n s.L s.M s.H
  split
  · show pk (prS x s).H = _
    unfold prS
    split
    · exact pk_tnH _ _ _
    · rfl
  · show pk (emS x s).H = _
    unfold emS
    split
    · show pk (if _ then _ else _ : List Hs) = _
      rw [if_neg (by rw [hof]; simp)]
      exact pk_tnH _ _ _
    · rfl
theorem lv_id {l : List ByteArray} {d : Int} : ∀ {H : List Hs}, (∀ y ∈ H, y.lv = false ∧ y.nm ∈ l) → lvH l H = H ∧ lvN l H = [] ∧ ∀ L M, lvL l d H L M = (L, M)
  | [], _ => ⟨rfl, rfl, fun _ _ => rfl⟩
  | y :: H, h => by
    obtain ⟨q1, q2, q3⟩ := lv_id (d := d) (H := H) (fun z hz => h z (by simp [hz]))
    have h1 : lvNow l y = false := by
      unfold lvNow
      rw [hasB_iff.2 (h y (by simp)).2]
      rfl
    refine ⟨?_, ?_, fun L M => ?_⟩
    · unfold lvH lvStay
      rw [if_pos h1, q1]
      rfl
    · unfold lvN
      rw [if_neg (by rw [h1]; simp), q2]
      rfl
    · unfold lvL lvBeg
      rw [if_neg (by rw [h1]; simp)]
      exact q3 L M
theorem en_id (h : Ks ns s) : ∀ {l : List ByteArray}, (∀ x ∈ l, x ∈ ns) → enS l s = s ∧ enN l s = []
  | [], _ => ⟨rfl, rfl⟩
  | x :: l, hl => by
    obtain ⟨q1, q2⟩ := en_id h (l := l) (fun y hy => hl y (by simp [hy]))
    have h1 : isH x s.H = true := isH_iff.2 (by rw [h.hn]; exact hl x (by simp))
    have h2 := h.of x
    have e1 : en1 x s = s := by
      unfold en1
      rw [if_neg (by rw [h1]; simp), if_neg (by rw [h2]; simp)]
    refine ⟨by unfold enS; rw [e1, q1], ?_⟩
    unfold enN enN1
    rw [e1, q2, if_neg (by rw [h1]; simp), if_neg (by rw [h2]; simp)]
    rfl
/-- Resolving to the names that are there. -/
theorem Ks.again (h : Ks ns s) (hc : Df.chk ns = 0) (d : Int) : reE ns = 0 ∧ reS ns d s = s ∧ reC ns d s = [] ∧ reN ns s = [] := by
  obtain ⟨q1, q2, q3⟩ := lv_id (d := d) (l := ns) h.lv
  have e1 : lvS ns d s = s := by
    unfold lvS
    rw [q1, q3]
  obtain ⟨q4, q5⟩ := en_id h (l := ns) (fun _ hx => hx)
  unfold reE reS reC reN
  rw [hc, if_pos rfl, if_pos rfl, if_pos rfl, e1]
  exact ⟨rfl, q4, q5, q2⟩
theorem Ks.start (ns : List ByteArray) (L M : List Dr) : Ks ns ⟨sta g0 ns, L, M⟩ := by
  unfold Ks pk sta
  rw [List.map_map]
  rfl
theorem Ks.len (h : Ks ns s) : s.H.length = ns.length := by rw [← hn_length, h.hn]
end

theorem same_ints (a b : Option Addr) (len cap cap' : Nat) (zs : List Int) (w : World) (h : IntsAt w a len cap zs) (h' : IntsAt w b len cap' zs) :
    Calls Tryd.prog 36 #[.slice a len cap, .slice b len cap'] w fun e w' => e = .returned (.bool true) ∧ Below w.heap.size w w' := by
  have hl1 := h.hle
  have hc1 := h.hcap
  have hl2 := h'.hle
  have hc2 := h'.hcap
  unfold maxLen at hc1 hc2
  go_enter Tryd.func36, Tryd.ntmps36
  go_wp2
  go_loopw [5] (fun vi wr => ∃ (k q : Nat), k ≤ len ∧ vi = .int .i64 k ∧ wr = w.drewN q) (fun vi _ => len - (intOf vi).toNat)
  case atStart => exact ⟨0, 0, Nat.zero_le _, rfl, rfl⟩
  case round =>
    obtain ⟨k, q, hk, rfl, hwr⟩ := hrel
    subst hwr
    by_cases hlt : k < len
    · obtain ⟨b1, off1, rfl, _, c1⟩ := h.at_ k hlt
      obtain ⟨b2, off2, rfl, _, c2⟩ := h'.at_ k hlt
      generalize zs.getD k 0 = z at c1 c2
      have hkn : (k : Int) < (len : Int) := by omega
      clear h h'
      go_wp2
      go_quiet (fail)
      go_wp2
      refine ⟨⟨k + 1, _, by omega, by simp, rfl⟩, by simp [intOf]; omega⟩
    · go_wp2
      go_ret
      exact ⟨rfl, below_drewN (Below.refl _ _) q⟩

end Go.Proofs.YtmlkpfkeeifgeaaDoor
