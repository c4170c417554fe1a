/-
  FleetRow's states, as plain facts: what is asked, what is admitted, who waits; and the two rows of names that the law keeps, beside a fleet. Conditions: a list of good names.
-/
import Derived.Test.YtmlkpfkeeifgeaaDoorForP
import Derived.Maps.AppendAt
namespace Go.Proofs.YtmlkpfkeeifgeaaDoor
open Go.ChangeShapes Go.WideShapes Go.ChangeAt Go.RowKit

/-- Of the names l: what was asked, what was admitted, the state. -/
structure RowI (l asked got : List ByteArray) (s : Fl) (i : Nat) : Prop where
  ex : ∃ g, s.H = sta g l ∧ (∀ x, (g x).1 = 0 ∨ (g x).1 = 1) ∧ ∀ x ∈ nms s.L, (g x).1 = 0
  row : got ++ nms s.L = asked
  inv : Inv s.L s.M
  few : s.M.length + s.L.length ≤ i
  mem : ∀ x ∈ nms s.L, x ∈ l
  al : asked.length ≤ i
theorem RowI.start (l : List ByteArray) : RowI l [] [] ⟨sta g0 l, [], []⟩ 0 := ⟨⟨g0, rfl, fun _ => .inl rfl, fun x hx => by cases hx⟩, rfl, Inv.nil, Nat.le_refl _, fun x hx => (by cases hx), Nat.le_refl _⟩
theorem RowI.more {l asked got : List ByteArray} {s : Fl} {i : Nat} (h : RowI l asked got s i) : RowI l asked got s (i + 1) := ⟨h.ex, h.row, h.inv, by have := h.few; omega, h.mem, by have := h.al; omega⟩
theorem RowI.len {l asked got : List ByteArray} {s : Fl} {i : Nat} (h : RowI l asked got s i) : got.length + s.L.length = asked.length := by
  rw [← h.row, List.length_append, nms_length]
theorem drE_zero {x : ByteArray} {s : Fl} (h : drE x s = 0) : ¬ ((ofN x s.H).st = 1 ∨ (ofN x s.H).st = 3) ∧ isIn x s.L = false ∧ isIn x s.M = false ∧ s.L.length < 16 ∧ askL x s.L s.M = s.L ++ [(x, 0)] ∧ drS x s = ⟨s.H, s.L ++ [(x, 0)], s.M⟩ := by
  have h0 := h
  unfold drE at h
  split at h
  · split at h
    · cases h
    · rename_i h2
      have e1 : nameB x = true ∧ (isIn x s.L || isIn x s.M) = false ∧ ¬ 16 ≤ s.L.length := by
        unfold askE at h
        split at h
        · cases h
        · split at h
          · cases h
          · split at h
            · cases h
            · rename_i q1 q2 q3
              exact ⟨by simpa using q1, by simpa using q2, q3⟩
      have e2 : askL x s.L s.M = s.L ++ [(x, 0)] := by
        unfold askL
        rw [if_neg (by rw [e1.1]; simp), if_neg (by rw [e1.2.1]; simp), if_neg e1.2.2]
      have e3 : isIn x s.L = false ∧ isIn x s.M = false := by
        have := e1.2.1
        simp only [Bool.or_eq_false_iff] at this
        exact this
      refine ⟨h2, e3.1, e3.2, by omega, e2, ?_⟩
      unfold drS
      rw [if_pos h0, e2]
  · rename_i h2
    exact absurd h h2
theorem drS_same {x : ByteArray} {s : Fl} (h : ¬ drE x s = 0) : drS x s = s := by unfold drS; rw [if_neg h]
theorem RowI.drain {l asked got : List ByteArray} {s : Fl} {i : Nat} {x : ByteArray} (h : RowI l asked got s i) (hx : x ∈ l) (hE : drE x s = 0) : RowI l (asked ++ [x]) got (drS x s) (i + 1) ∧ plc x (nms (drS x s).L) = (asked.length : Int) - got.length := by
  obtain ⟨h1, h2, h3, h4, _, h6⟩ := drE_zero hE
  rw [h6]
  obtain ⟨g, e1, e2, e3⟩ := h.ex
  have hn : nms (s.L ++ [(x, 0)]) = nms s.L ++ [x] := by simp [nms]
  have hxL := isIn_not.1 h2
  refine ⟨⟨⟨g, e1, e2, ?_⟩, ?_, h.inv.ask hxL (isIn_not.1 h3) h4, ?_, ?_, by have := h.al; simp; omega⟩, ?_⟩
  · intro y hy
    rw [hn] at hy
    rcases List.mem_append.1 hy with hy | hy
    · exact e3 y hy
    · have hyx : y = x := by simpa using hy
      subst hyx
      rw [e1, ofN_sta hx] at h1
      rcases e2 y with e | e
      · exact e
      · exact absurd (.inl e) h1
  · rw [hn, ← h.row, List.append_assoc]
  · have := h.few; simp; omega
  · intro y hy
    rw [hn] at hy
    rcases List.mem_append.1 hy with hy | hy
    · exact h.mem y hy
    · have hyx : y = x := by simpa using hy
      exact hyx ▸ hx
  · show plc x (nms (s.L ++ [(x, 0)])) = _
    have hl := h.len
    rw [hn, plc_mem (by simp)]
    have : fidx x (nms s.L ++ [x]) = (nms s.L).length := by
      generalize nms s.L = m at hxL
      induction m with
      | nil => simp [fidx]
      | cons a m ih =>
        have ha : ¬ a = x := fun e => hxL (by simp [e])
        have := ih (fun e => hxL (by simp [e]))
        simp [fidx, ha, this]
    rw [this, nms_length]
    omega

/-- What the admission of drains leaves. -/
theorem adm_row {l : List ByteArray} (hn : l.Nodup) (e gd d : Int) : ∀ (L M : List Dr) (g : ByteArray → Int × Bool), (∀ x, (g x).1 = 0 ∨ (g x).1 = 1) → (∀ x ∈ nms L, (g x).1 = 0) → (∀ x ∈ nms L, x ∈ l) → Inv L M →
    ∃ g', (adm e gd d (sta g l) L M).1.H = sta g' l ∧ (∀ x, (g' x).1 = 0 ∨ (g' x).1 = 1) ∧ (∀ x ∈ nms (adm e gd d (sta g l) L M).1.L, (g' x).1 = 0) ∧ (adm e gd d (sta g l) L M).2 ++ nms (adm e gd d (sta g l) L M).1.L = nms L ∧ Inv (adm e gd d (sta g l) L M).1.L (adm e gd d (sta g l) L M).1.M ∧
      (adm e gd d (sta g l) L M).1.M.length + (adm e gd d (sta g l) L M).1.L.length ≤ M.length + L.length ∧ (∀ p L', (adm e gd d (sta g l) L M).1.L = p :: L' → mayF p.1 (sta g' l) e gd = false)
  | [], M, g, h1, _, _, hv => ⟨g, rfl, h1, fun x hx => (by cases hx), rfl, hv, Nat.le_refl _, fun p L' h => (by cases h)⟩
  | p :: L, M, g, h1, h2, h3, hv => by
    cases hm : mayF p.1 (sta g l) e gd with
    | false =>
      rw [adm_no hm]
      exact ⟨g, rfl, h1, h2, rfl, hv, Nat.le_refl _, fun q L' h => by (cases h; exact hm)⟩
    | true =>
      obtain ⟨hvt, hnt, hmt, hbl⟩ := hv.tail
      have hx : p.1 ∈ l := h3 _ (by simp [nms])
      rw [adm_yes hm, tnH_sta hn hx, h2 p.1 (by simp [nms])]
      have hu : ∀ x, (up g p.1 (St.nx 0 0, (g p.1).2) x).1 = 0 ∨ (up g p.1 (St.nx 0 0, (g p.1).2) x).1 = 1 := fun x => by
        unfold up
        split
        · exact .inr rfl
        · exact h1 x
      have hu2 : ∀ x ∈ nms L, (up g p.1 (St.nx 0 0, (g p.1).2) x).1 = 0 := fun x hx => by
        have : x ≠ p.1 := fun e => hnt (e ▸ hx)
        rw [up_ne this]
        exact h2 x (by simp [nms] at hx ⊢; exact .inr hx)
      have hv2 : Inv L (begM p.1 d M) := by
        have := hvt.begun p.1 d
        rwa [hbl] at this
      obtain ⟨g', q1, q2, q3, q4, q5, q6, q7⟩ := adm_row hn e gd d L (begM p.1 d M) _ hu hu2 (fun x hx => h3 x (by simp [nms] at hx ⊢; exact .inr hx)) hv2
      refine ⟨g', q1, q2, q3, ?_, q5, ?_, q7⟩
      · have hp : nms (p :: L) = p.1 :: nms L := rfl
        rw [hp, ← q4]
        rfl
      · have := begM_len p.1 d M
        simp
        omega
theorem RowI.admit {l asked got : List ByteArray} {s : Fl} {i : Nat} (h : RowI l asked got s i) (hn : l.Nodup) (h4 : l.length ≤ 4000) (e gd d : Int) (h0 : 0 < e) (he : e ≤ 1000) : RowI l asked (got ++ (adm e gd d s.H s.L s.M).2) (adm e gd d s.H s.L s.M).1 (i + 1) ∧
    (got.length + (adm e gd d s.H s.L s.M).2.length < asked.length → capF (adm e gd d s.H s.L s.M).1.H e - e < gd) := by
  obtain ⟨g, e1, e2, e3⟩ := h.ex
  have hr := h.row
  have hf := h.few
  have hmm := h.mem
  have hv := h.inv
  obtain ⟨g', q1, q2, q3, q4, q5, q6, q7⟩ := adm_row hn e gd d s.L s.M g e2 e3 hmm hv
  rw [← e1] at q1 q3 q4 q5 q6 q7
  generalize adm e gd d s.H s.L s.M = R at *
  have hrow : (got ++ R.2) ++ nms R.1.L = asked := by rw [List.append_assoc, q4, hr]
  refine ⟨⟨⟨g', q1, q2, q3⟩, hrow, q5, by omega, fun x hx => hmm x (by rw [← q4]; simp [hx]), by have := h.al; omega⟩, fun hlt => ?_⟩
  have hlen := congrArg List.length hrow
  rw [List.length_append, List.length_append, nms_length] at hlen
  cases hL : R.1.L with
  | nil => rw [hL] at hlen; simp at hlen; omega
  | cons p L' =>
    have hm := q7 p L' hL
    have hx : p.1 ∈ l := hmm _ (by rw [← q4, hL]; simp [nms])
    have hst := q3 p.1 (by rw [hL]; simp [nms])
    have hlt2 := (pl_yes (isH_sta (g := g').2 hx)).2
    have hz0 : (hz (sta g' l)).getD (plN p.1 (sta g' l)) 0 = 0 := by
      rw [hz_getD]
      have := ofN_sta (g := g') hx
      unfold ofN at this
      rw [this]
      exact hst
    unfold mayF at hm
    rw [(pl_yes (isH_sta (g := g').2 hx)).1, Gd.mayB_act ⟨by omega, by rw [hz_length]; omega⟩ (by rw [Int.toNat_natCast]; exact hz0)] at hm
    have hact : 1 ≤ Gd.act (hz (sta g' l)) := by
      have := Gd.act_left (L := hz (sta g' l)) (k := plN p.1 (sta g' l)) (by rw [hz_length]; exact hlt2) hz0
      omega
    have hle := Gd.act_le (hz (sta g' l))
    rw [hz_length, sta_length] at hle
    rw [Gd.capI_small (by omega) (by omega) he] at hm
    have hpos : Gd.pos e = e := Gd.pos_pos h0
    rw [hpos] at hm
    have hm' := of_decide_eq_false hm
    rw [q1, capF_one (by rw [sta_length]; exact h4) h0 he]
    have hmul : ((Gd.act (hz (sta g' l)) : Int) - 1) * e = (Gd.act (hz (sta g' l)) : Int) * e - e := by rw [Int.sub_mul, Int.one_mul]
    omega

/-- Texts are appended, whatever the slice is that they come from: where the row lies then. -/
theorem wpList_strsAt (w : World) {ops : Array Oper} {rest : List Oper} {o : Oper} {a : Act} {Q : Exit → Act → World → Prop} (hgd : o.guard = none) (s x : Operand)
    (ho : o.op = .call { callee := .builtin .append, args := #[s, x], argTypes := #[27, 27] }) (base : Nat) (v : Value) (n : Nat) (xs ys : List ByteArray) (hs : a.eval s = v) (hown : w.ownsRow base 9 1 v n (sc xs)) (ao : Option Addr) (m c : Nat)
    (hx : a.eval x = .slice ao m c) (hB : StrsAt w ao m c ys) (hnone : ao = none → m = 0 ∧ c = 0) (hnm : n + m ≤ 5000) (hbase : base ≤ w.heap.size)
    (h : ∀ v' w', w'.ownsRow base 9 1 v' (n + m) (sc (xs ++ ys)) → w.grownBy w' v.ownBlock → (v'.ownBlock = v.ownBlock ∨ v'.ownBlock = some w.heap.size) → wpList Tryd.prog ops Q rest (a.put o.dst v') w') : wpList Tryd.prog ops Q (o :: rest) a w := by
  obtain ⟨i, hi, hz0, hz1, hz2⟩ := info_parts info9
  cases ao with
  | none =>
    obtain ⟨rfl, rfl⟩ := hnone rfl
    obtain rfl : ys = [] := List.eq_nil_of_length_eq_zero hB.hlen
    exact wpList_append_own_none hgd s x 27 ho base 9 i 1 Tryd.underlying27 hi v n _ hs hown hx (h v w (by simpa using hown) (World.grownBy.refl _ _) (.inl rfl))
  | some ad =>
    have hnews : ∀ j u, (sc ys)[j]? = some u → w.cell? (ad.add j) = some u := by
      intro j u hu
      have hj : j < ys.length := by
        have := (List.getElem?_eq_some_iff.1 hu).1
        simpa [sc_length] using this
      obtain ⟨b, off, e, _, hc⟩ := hB.at_ j (by have := hB.hlen; omega)
      cases e
      have e0 : ((⟨b, off, none⟩ : Addr).add j) = ⟨b, off + j, none⟩ := by unfold Addr.add; split <;> simp_all
      rw [e0, hc]
      simp [sc, List.getD, hj] at hu ⊢
      exact hu
    obtain ⟨v', w', hr, h2, h3, _, h5⟩ := run_append_own_at (P := Tryd.prog) w base 27 o.type 9 i (.string ⟨#[]⟩) 1 16 Tryd.underlying27 hi hz0 hz1 hz2 rfl (by decide) v n _ hown ad m c (sc ys) (by rw [sc_length, hB.hlen, Nat.mul_one]) hnews (sc_one _) (by unfold maxLen; omega) (by omega) hbase
    refine wpList_plain hgd fun K hK => ?_
    unfold Oper.wp execOp
    simp only [ho, resolve, invoke, builtin, Sem.run_bind, Sem.run_pure, Result.andThen_ok, List.map_toArray, List.map_cons, List.map_nil, hs, hx, hr]
    exact hK _ _ (h v' w' (by rw [sc_append]; exact h2) h3 h5)

/-- Two rows of names (v1, v2) beside a fleet. -/
structure RwW (w0 : World) (A : Nat → Prop) (f : Nat) (e gd : Int) (O1 O2 : List ByteArray) (s : Fl) (v1 v2 : Value) (w : World) : Prop where
  o1 : w.ownsRow w0.heap.size 9 1 v1 O1.length (sc O1)
  o2 : w.ownsRow w0.heap.size 9 1 v2 O2.length (sc O2)
  ap : ∀ k, v1.ownBlock = some k → v2.ownBlock ≠ some k
  fin : FIn w (fun k => A k ∨ v1.ownBlock = some k ∨ v2.ownBlock = some k) f e gd s.H s.L s.M
  kp : Keep A w0 w
  g0 : ∀ k, A k → k < w0.heap.size
  a0 : A 0
  pos : 0 < w0.heap.size
section
variable {w0 w w' : World} {A : Nat → Prop} {f : Nat} {e gd : Int} {O1 O2 : List ByteArray} {s t : Fl} {v1 v2 : Value}
theorem RwW.start (h : FA w0 A f e gd s) : RwW w0 A f e gd [] [] s (.slice none 0 0) (.slice none 0 0) w0 :=
  ⟨World.ownsRow_nil _ _ _ _, World.ownsRow_nil _ _ _ _, fun k hk => by (cases hk), h.fewer (fun k hk => by rcases hk with hk | hk | hk; exact hk; cases hk; cases hk) (.inl h.a0), Keep.refl _ _, h.guard, h.a0, h.tabs.pos⟩
theorem RwW.write (h : RwW w0 A f e gd O1 O2 s v1 v2 w) (hf : FA w' (fun k => A k ∨ v1.ownBlock = some k ∨ v2.ownBlock = some k) f e gd t) (hk : Keep (fun k => A k ∨ v1.ownBlock = some k ∨ v2.ownBlock = some k) w w') : RwW w0 A f e gd O1 O2 t v1 v2 w' :=
  ⟨owns_keep h.o1 hk (fun _ hk => .inr (.inl hk)), owns_keep h.o2 hk (fun _ hk => .inr (.inr hk)), h.ap, hf, h.kp.trans (hk.mono fun _ _ hA => .inl hA), h.g0, h.a0, h.pos⟩
theorem RwW.below (h : RwW w0 A f e gd O1 O2 s v1 v2 w) (hb : Below w.heap.size w w') : RwW w0 A f e gd O1 O2 s v1 v2 w' := h.write (h.fin.below hb) (keep_below hb)
theorem RwW.app1 (h : RwW w0 A f e gd O1 O2 s v1 v2 w) {P : List ByteArray} {v' : Value} (ho : w'.ownsRow w0.heap.size 9 1 v' P.length (sc P)) (hg : w.grownBy w' v1.ownBlock) (hat : v'.ownBlock = v1.ownBlock ∨ v'.ownBlock = some w.heap.size) :
    RwW w0 A f e gd P O2 s v' v2 w' := by
  have hk : Keep (fun k => v1.ownBlock ≠ some k) w w' := ⟨hg.os, hg.tape, hg.output, hg.size, fun k hk hA => hg.block k hk (fun e => hA e.symm)⟩
  have hge : ∀ k, v1.ownBlock = some k → w0.heap.size ≤ k := fun k hk => (h.o1.lt k hk).1
  have hat' : ∀ k, v'.ownBlock = some k → v1.ownBlock = some k ∨ w.heap.size ≤ k := fun k hk => by
    rcases hat with e | e
    · exact .inl (e ▸ hk)
    · rw [e] at hk
      exact .inr (Nat.le_of_eq (Option.some.inj hk))
  refine ⟨ho, owns_keep h.o2 hk (fun k h2 h1 => h.ap k h1 h2), fun k hk h2 => ?_, ?_, h.kp.trans (hk.mono fun k _ hA e => by have := hge k e; have := h.g0 k hA; omega), h.g0, h.a0, h.pos⟩
  · rcases hat' k hk with e | e
    · exact h.ap k e h2
    · have := (h.o2.lt k h2).2; omega
  · refine h.fin.keep (hk.mono ?_) ?_ ?_ (.inl h.a0)
    · rintro k _ (hn | rfl) e
      · exact hn (.inr (.inl e))
      · have := hge 0 e; have := h.pos; omega
    · rintro k (hk | hk | hk)
      · exact .inl (.inl hk)
      · exact (hat' k hk).imp (fun e => .inr (.inl e)) id
      · exact .inl (.inr (.inr hk))
    · rintro k (hk | hk | hk)
      · exact Nat.lt_of_lt_of_le (h.fin.guard k (.inl hk)) hg.size
      · exact (ho.lt k hk).2
      · exact Nat.lt_of_lt_of_le (h.fin.guard k (.inr (.inr hk))) hg.size
theorem RwW.turn (h : RwW w0 A f e gd O1 O2 s v1 v2 w) : RwW w0 A f e gd O2 O1 s v2 v1 w :=
  ⟨h.o2, h.o1, fun k hk h1 => h.ap k h1 hk, h.fin.fewer (fun k hk => by rcases hk with hk | hk | hk; exact .inl hk; exact .inr (.inr hk); exact .inr (.inl hk)) (.inl h.a0), h.kp, h.g0, h.a0, h.pos⟩
end
end Go.Proofs.YtmlkpfkeeifgeaaDoor
