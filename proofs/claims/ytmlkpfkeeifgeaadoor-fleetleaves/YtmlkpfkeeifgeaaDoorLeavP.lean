/-
  The document's own play of leaving: a row of hosts is resolved to another, those that leave run empty, a third row is resolved to. No conditions beside.
-/
import Derived.Test.YtmlkpfkeeifgeaaDoorM3
namespace Go.Proofs.YtmlkpfkeeifgeaaDoor

/-- Those of a row that are in no other. -/
def outs (m l : List ByteArray) : List ByteArray := l.filter (fun x => !hasB m x)
theorem mem_outs {m l : List ByteArray} {x : ByteArray} : x ∈ outs m l ↔ x ∈ l ∧ x ∉ m := by
  unfold outs
  rw [List.mem_filter, Bool.not_eq_true', hasB_not]
theorem outs_nodup {m l : List ByteArray} (h : l.Nodup) : (outs m l).Nodup := h.filter _
theorem outs_cons_in {m l : List ByteArray} {x : ByteArray} (h : hasB m x = true) : outs m (x :: l) = outs m l := by
  unfold outs
  rw [List.filter_cons_of_neg (by rw [h]; simp)]
theorem outs_cons_out {m l : List ByteArray} {x : ByteArray} (h : hasB m x = false) : outs m (x :: l) = x :: outs m l := by
  unfold outs
  rw [List.filter_cons_of_pos (by rw [h]; rfl)]
/-- What is told of a host behind a resolving. -/
def gA (m : List ByteArray) (x : ByteArray) : Int × Bool := if hasB m x = true then (0, false) else (1, true)
theorem gA_in {m : List ByteArray} {x : ByteArray} (h : hasB m x = true) : gA m x = (0, false) := if_pos h
theorem gA_out {m : List ByteArray} {x : ByteArray} (h : hasB m x = false) : gA m x = (1, true) := if_neg (by rw [h]; simp)

/-- Hosts of which each is Active or leaves. -/
def Qs (g : ByteArray → Int × Bool) (l : List ByteArray) : Prop := ∀ x ∈ l, g x = (0, false) ∨ g x = (1, true)
theorem lv_Q {q : List ByteArray} {g : ByteArray → Int × Bool} : ∀ {l : List ByteArray}, Qs g l → lvH q (sta g l) = sta (fun x => if hasB q x = true then g x else (1, true)) l
  | [], _ => rfl
  | x :: l, h => by
    have ih := lv_Q (q := q) (l := l) (fun y hy => h y (by simp [hy]))
    show lvStay q ⟨x, (g x).1, (g x).2⟩ ++ lvH q (sta g l) = ⟨x, _, _⟩ :: sta _ l
    rw [ih]
    have e : lvStay q ⟨x, (g x).1, (g x).2⟩ = [⟨x, (if hasB q x = true then g x else (1, true)).1, (if hasB q x = true then g x else (1, true)).2⟩] := by
      unfold lvStay lvNow
      rcases h x (by simp) with e | e
      · rw [e]
        cases hq : hasB q x with
        | true => simp
        | false => simp only [Bool.not_false, Bool.and_self, Bool.true_eq_false, ite_false, Bool.false_eq_true]; rfl
      · rw [e]
        cases hq : hasB q x <;> simp
    rw [e]
    rfl
theorem lvN_g0 (b : List ByteArray) : ∀ a : List ByteArray, lvN b (sta g0 a) = outs b a
  | [] => rfl
  | x :: a => by
    have ih := lvN_g0 b a
    show (if lvNow b ⟨x, 0, false⟩ = true then [x] else []) ++ lvN b (sta g0 a) = _
    rw [ih]
    unfold lvNow
    cases h : hasB b x with
    | true => rw [outs_cons_in h]; rfl
    | false => rw [outs_cons_out h]; rfl
theorem lvL_g0 (b : List ByteArray) (d : Int) : ∀ (a : List ByteArray) (M : List Dr), a.Nodup → (∀ x ∈ a, nameB x = true) → (∀ x ∈ a, x ∉ nms M) → lvL b d (sta g0 a) [] M = ([], M ++ (outs b a).map (fun x => (x, cut d)))
  | [], M, _, _, _ => by simp [lvL, outs, sta]
  | x :: a, M, hn, hg, hM => by
    have hna := List.nodup_cons.1 hn
    show (if lvBeg b ⟨x, 0, false⟩ = true then lvL b d (sta g0 a) (begL x [] M) (begM x d M) else lvL b d (sta g0 a) [] M) = _
    cases h : hasB b x with
    | true =>
      rw [outs_cons_in h, if_neg (by unfold lvBeg lvNow; rw [h]; simp)]
      exact lvL_g0 b d a M hna.2 (fun y hy => hg y (by simp [hy])) (fun y hy => hM y (by simp [hy]))
    | false =>
      have e := beg_facts (d := d) (L := []) (hg x (by simp)) (hM x (by simp))
      rw [outs_cons_out h, if_pos (by unfold lvBeg lvNow; rw [h]; rfl), e.1, e.2]
      have ih := lvL_g0 b d a (M ++ [(x, cut d)]) hna.2 (fun y hy => hg y (by simp [hy])) (fun y hy => by
        rw [nms_snoc]
        intro hy2
        rcases List.mem_append.1 hy2 with h2 | h2
        · exact hM y (by simp [hy]) h2
        · exact hna.1 (by rw [← List.mem_singleton.1 h2]; exact hy))
      have e0 : wo x [] = [] := rfl
      rw [e0, ih]
      simp
theorem en_in {x : ByteArray} {g : ByteArray → Int × Bool} {k : List ByteArray} {L M : List Dr} (hx : x ∈ k) (h : g x = (0, false)) : en1 x ⟨sta g k, L, M⟩ = ⟨sta g k, L, M⟩ ∧ enN1 x ⟨sta g k, L, M⟩ = [] := by
  constructor
  · unfold en1
    rw [if_neg (by show ¬ isH x (sta g k) = false; rw [isH_sta.2 hx]; simp)]
    show (if (ofN x (sta g k)).lv = true then _ else _) = _
    rw [ofN_sta hx, h]
    rfl
  · unfold enN1
    rw [if_neg (by show ¬ isH x (sta g k) = false; rw [isH_sta.2 hx]; simp)]
    show (if (ofN x (sta g k)).lv = true then _ else _) = _
    rw [ofN_sta hx, h]
    rfl
theorem en_out {x : ByteArray} {g : ByteArray → Int × Bool} {k : List ByteArray} {L M : List Dr} (hx : x ∉ k) (h : g x = (0, false)) : en1 x ⟨sta g k, L, M⟩ = ⟨sta g (k ++ [x]), L, M⟩ ∧ enN1 x ⟨sta g k, L, M⟩ = [x] := by
  unfold en1 enN1
  rw [if_pos (isH_sta'.2 hx), if_pos (isH_sta'.2 hx), sta_append]
  refine ⟨?_, rfl⟩
  show Fl.mk (sta g k ++ [⟨x, 0, false⟩]) L M = ⟨sta g k ++ [⟨x, (g x).1, (g x).2⟩], L, M⟩
  rw [h]
theorem en_2 {g : ByteArray → Int × Bool} {L M : List Dr} : ∀ (l k : List ByteArray), l.Nodup → (∀ x ∈ l, g x = (0, false)) → enS l ⟨sta g k, L, M⟩ = ⟨sta g (k ++ outs k l), L, M⟩ ∧ enN l ⟨sta g k, L, M⟩ = outs k l
  | [], k, _, _ => by simp [enS, enN, outs]
  | x :: l, k, hn, hg => by
    have hna := List.nodup_cons.1 hn
    show enS l (en1 x _) = _ ∧ enN1 x _ ++ enN l (en1 x _) = _
    cases h : hasB k x with
    | true =>
      obtain ⟨e1, e2⟩ := en_in (L := L) (M := M) (hasB_iff.1 h) (hg x (by simp))
      rw [e1, e2, outs_cons_in h]
      exact en_2 l k hna.2 (fun y hy => hg y (by simp [hy]))
    | false =>
      obtain ⟨e1, e2⟩ := en_out (L := L) (M := M) (hasB_not.1 h) (hg x (by simp))
      have ih := en_2 (g := g) (L := L) (M := M) l (k ++ [x]) hna.2 (fun y hy => hg y (by simp [hy]))
      have e3 : outs (k ++ [x]) l = outs k l := by
        unfold outs
        refine List.filter_congr fun y hy => ?_
        rw [hasB_snoc]
        have : ¬ x = y := fun e => hna.1 (e ▸ hy)
        simp [this]
      rw [e3] at ih
      rw [e1, e2, outs_cons_out h, ih.1, ih.2]
      simp
/-- Resolving a row that is there to another one. -/
theorem res_two {a b : List ByteArray} (ha : a.Nodup) (hb : b.Nodup) (hg : ∀ x ∈ a, nameB x = true) (hc : Df.chk b = 0) (d : Int) : reE b = 0 ∧ reS b d ⟨sta g0 a, [], []⟩ = ⟨sta (gA b) (a ++ outs a b), [], (outs b a).map (fun x => (x, cut d))⟩ ∧ reC b d ⟨sta g0 a, [], []⟩ = outs a b ∧ reN b ⟨sta g0 a, [], []⟩ = outs b a := by
  have h1 : lvH b (sta g0 a) = sta (gA b) a := by
    have := lv_Q (q := b) (g := g0) (l := a) (fun x _ => .inl rfl)
    rw [this]
    rfl
  have h2 := lvL_g0 b d a [] ha hg (fun _ _ h => by cases h)
  have h3 : lvS b d ⟨sta g0 a, [], []⟩ = ⟨sta (gA b) a, [], (outs b a).map (fun x => (x, cut d))⟩ := by
    unfold lvS
    show Fl.mk (lvH b (sta g0 a)) (lvL b d (sta g0 a) [] []).1 (lvL b d (sta g0 a) [] []).2 = _
    rw [h1, h2]
    rfl
  obtain ⟨q1, q2⟩ := en_2 (g := gA b) (L := []) (M := (outs b a).map (fun x => (x, cut d))) b a hb (fun x hx => gA_in (hasB_iff.2 hx))
  unfold reE reS reC reN
  rw [hc, if_pos rfl, if_pos rfl, if_pos rfl, h3]
  exact ⟨rfl, q1, q2, lvN_g0 b a⟩
theorem due_all (now c : Int) (h : past now c = true) : ∀ l : List ByteArray, dueL now (l.map (fun x => (x, c))) = l
  | [] => rfl
  | x :: l => by
    have ih := due_all now c h l
    unfold dueL at ih ⊢
    rw [List.map_cons, List.filter_cons]
    show nms (if past now c = true then _ else _) = _
    rw [if_pos h]
    show x :: nms _ = _
    rw [ih]
theorem due_none (now c : Int) (h : past now c = false) : ∀ l : List ByteArray, dueL now (l.map (fun x => (x, c))) = []
  | [] => rfl
  | x :: l => by
    have ih := due_none now c h l
    unfold dueL at ih ⊢
    rw [List.map_cons, List.filter_cons]
    show nms (if past now c = true then _ else _) = _
    rw [if_neg (by rw [h]; exact Bool.false_ne_true)]
    exact ih
theorem past77 : past 7 (cut 7) = true := by decide
theorem past67 : past 6 (cut 7) = false := by decide
theorem filt_len (p : ByteArray → Bool) : ∀ l : List ByteArray, (l.filter p).length + (l.filter (fun x => !p x)).length = l.length
  | [] => rfl
  | x :: l => by
    have ih := filt_len p l
    cases h : p x with
    | true => rw [List.filter_cons_of_pos h, List.filter_cons_of_neg (by rw [h]; simp)]; simp; omega
    | false => rw [List.filter_cons_of_neg (by rw [h]; simp), List.filter_cons_of_pos (by rw [h]; rfl)]; simp; omega
theorem outs_count {a b : List ByteArray} (ha : a.Nodup) (hb : b.Nodup) : (outs a b).length + a.length = b.length + (outs b a).length := by
  have h1 := filt_len (hasB b) a
  have h2 := filt_len (hasB a) b
  have h3 : (a.filter (hasB b)).length ≤ (b.filter (hasB a)).length := sub_len (ha.filter _) fun x hx => by
    have := List.mem_filter.1 hx
    exact List.mem_filter.2 ⟨hasB_iff.1 this.2, hasB_iff.2 this.1⟩
  have h4 : (b.filter (hasB a)).length ≤ (a.filter (hasB b)).length := sub_len (hb.filter _) fun x hx => by
    have := List.mem_filter.1 hx
    exact List.mem_filter.2 ⟨hasB_iff.1 this.2, hasB_iff.2 this.1⟩
  unfold outs
  omega
theorem lvF_sta {x : ByteArray} {g : ByteArray → Int × Bool} {l : List ByteArray} (h : x ∈ l) : lvF x (sta g l) = (g x).2 := by
  unfold lvF
  rw [isH_sta.2 h, ofN_sta h]
  rfl
/-- One that leaves runs empty. -/
theorem em_lv {x : ByteArray} {g : ByteArray → Int × Bool} {l : List ByteArray} {s : Fl} (hn : l.Nodup) (hx : x ∈ l) (hs : s.H = sta g l) (h : g x = (1, true)) : emB x s = true ∧ (emS x s).H = sta g (l.filter (fun y => !decide (y = x))) ∧ emB x (emS x s) = false ∧ emS x (emS x s) = emS x s ∧ isH x (emS x s).H = false := by
  have h1 : emB x s = true := by
    unfold emB
    rw [hs, isH_sta.2 hx, ofN_sta hx, h]
    rfl
  have h2 : (emS x s).H = sta g (l.filter (fun y => !decide (y = x))) := by
    unfold emS
    rw [if_pos h1]
    show (if (ofN x s.H).lv = true then s.H.eraseIdx (plN x s.H) else _) = _
    rw [hs, ofN_sta hx, h, if_pos rfl]
    exact erase_sta hn hx g
  have h3 : isH x (emS x s).H = false := by
    rw [h2]
    refine isH_sta'.2 fun hm => ?_
    have := (List.mem_filter.1 hm).2
    simp at this
  have h4 : emB x (emS x s) = false := by
    unfold emB
    rw [h3]
    rfl
  refine ⟨h1, h2, h4, ?_, h3⟩
  generalize emS x s = t at *
  unfold emS
  rw [if_neg (by rw [h4]; simp)]
theorem en_Q : ∀ (q : List ByteArray) (s : Fl) (g : ByteArray → Int × Bool) (l : List ByteArray), s.H = sta g l → l.Nodup → Qs g l → ∃ g' l', (enS q s).H = sta g' l' ∧ (∀ x ∈ q, x ∈ l' ∧ g' x = (0, false)) ∧ (∀ x ∈ l, g x = (0, false) → x ∈ l' ∧ g' x = (0, false))
  | [], s, g, l, hs, _, _ => ⟨g, l, hs, fun _ h => (by cases h), fun _ h e => ⟨h, e⟩⟩
  | x :: q, s, g, l, hs, hn, hQ => by
    have step : ∃ g1 l1, (en1 x s).H = sta g1 l1 ∧ l1.Nodup ∧ Qs g1 l1 ∧ x ∈ l1 ∧ g1 x = (0, false) ∧ ∀ y ∈ l, g y = (0, false) → y ∈ l1 ∧ g1 y = (0, false) := by
      by_cases hx : x ∈ l
      · rcases hQ x hx with h0 | h1
        · refine ⟨g, l, ?_, hn, hQ, hx, h0, fun y hy e => ⟨hy, e⟩⟩
          unfold en1
          rw [hs, if_neg (by rw [isH_sta.2 hx]; simp), ofN_sta hx, h0]
          exact hs
        · refine ⟨up g x (0, false), l, ?_, hn, fun y hy => ?_, hx, up_same _ _ _, fun y hy e => ⟨hy, ?_⟩⟩
          · unfold en1
            rw [hs, if_neg (by rw [isH_sta.2 hx]; simp), ofN_sta hx, h1, if_pos rfl]
            show tnH (plN x (sta g l)) 6 (setV (sta g l) (plN x (sta g l)) false) = _
            rw [setV_sta hn hx]
            have e1 : plN x (sta g l) = plN x (sta (up g x ((g x).1, false)) l) := by rw [plN_sta, plN_sta]
            rw [e1, tnH_sta hn hx, up_up, up_same, h1]
            rfl
          · by_cases e : y = x
            · rw [e, up_same]; exact .inl rfl
            · rw [up_ne e]; exact hQ y hy
          · by_cases e2 : y = x
            · rw [e2, up_same]
            · rw [up_ne e2]; exact e
      · refine ⟨up g x (0, false), l ++ [x], ?_, ?_, fun y hy => ?_, by simp, up_same _ _ _, fun y hy e => ⟨by simp [hy], ?_⟩⟩
        · unfold en1
          rw [hs, if_pos (isH_sta'.2 hx), sta_append]
          show sta g l ++ [⟨x, 0, false⟩] = sta (up g x (0, false)) l ++ [⟨x, (up g x (0, false) x).1, (up g x (0, false) x).2⟩]
          rw [up_same, sta_congr (g := up g x (0, false)) (g' := g) (fun y hy => up_ne (fun e => hx (e ▸ hy)))]
        · exact List.nodup_append.2 ⟨hn, by simp, fun y hy z hz e => by
            have := List.mem_singleton.1 hz
            exact hx (by rw [← this, ← e]; exact hy)⟩
        · by_cases e : y = x
          · rw [e, up_same]; exact .inl rfl
          · rw [up_ne e]
            rcases List.mem_append.1 hy with h | h
            · exact hQ y h
            · exact absurd (List.mem_singleton.1 h) e
        · rw [up_ne (fun e2 => hx (by rw [← e2]; exact hy))]; exact e
    obtain ⟨g1, l1, q1, q2, q3, q4, q5, q6⟩ := step
    obtain ⟨g', l', t1, t2, t3⟩ := en_Q q (en1 x s) g1 l1 q1 q2 q3
    refine ⟨g', l', t1, fun y hy => ?_, fun y hy e => t3 y (q6 y hy e).1 (q6 y hy e).2⟩
    rcases List.mem_cons.1 hy with rfl | hy
    · exact t3 y q4 q5
    · exact t2 y hy
/-- Behind a resolving, where each was Active or left: those of the row are Active and don't leave. -/
theorem res_Q {c : List ByteArray} {s : Fl} {g : ByteArray → Int × Bool} {l : List ByteArray} (hs : s.H = sta g l) (hn : l.Nodup) (hQ : Qs g l) (hc : Df.chk c = 0) (d : Int) : ∀ x ∈ c, isH x (reS c d s).H = true ∧ stF x (reS c d s).H = 0 ∧ lvF x (reS c d s).H = false := by
  intro x hx
  have h1 : (lvS c d s).H = sta (fun x => if hasB c x = true then g x else (1, true)) l := by
    show lvH c s.H = _
    rw [hs, lv_Q hQ]
  obtain ⟨g', l', t1, t2, -⟩ := en_Q c (lvS c d s) _ l h1 hn (fun y hy => by
    show (if hasB c y = true then g y else (1, true)) = _ ∨ (if hasB c y = true then g y else (1, true)) = _
    split
    · exact hQ y hy
    · exact .inr rfl)
  have e : (reS c d s).H = sta g' l' := by
    unfold reS
    rw [if_pos hc]
    exact t1
  obtain ⟨h2, h3⟩ := t2 x hx
  rw [e]
  exact ⟨isH_sta.2 h2, by rw [stF_sta h2, h3], by rw [lvF_sta h2, h3]⟩
end Go.Proofs.YtmlkpfkeeifgeaaDoor
