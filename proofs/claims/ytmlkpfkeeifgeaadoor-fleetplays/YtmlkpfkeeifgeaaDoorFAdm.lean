/-
  What Admit does. Conditions: a fleet lies where it is said to lie, of at most 4000 hosts, and drains; of its drains none stands twice; a name is no longer than the greatest length.
-/
import Derived.Test.YtmlkpfkeeifgeaaDoorFOps
import Derived.Test.YtmlkpfkeeifgeaaDoorFirst
namespace Go.Proofs.YtmlkpfkeeifgeaaDoor
open Go.ChangeShapes Go.WideShapes Go.ChangeAt Go.RowKit

section
variable {w : World} {A : Nat → Prop} {f : Nat} {e gd : Int} {H : List Hs} {L M : List Dr}

set_option maxHeartbeats 1000000 in
set_option maxRecDepth 100000 in
theorem asked_may (h : FIn w A f e gd H L M) (hl : H.length ≤ 4000) (p : Nat) (x : ByteArray) (hp : w.cell? ⟨p, 0, none⟩ = some (.func (.func 56) #[.pointer (some ⟨f, 0, none⟩)] #[])) (b : Bool) (hm : mayF x H e gd = b) :
    Calls Tryd.prog 99 #[.string x, .pointer (some ⟨p, 0, none⟩)] w fun r w' => r = .returned (.bool b) ∧ Below w.heap.size w w' := by
  have hmf : ∀ (fn : Fn) (first cap : Array Value) (w : World), (Instr.makeFunc fn first cap).run Tryd.prog w = .ok (.func fn first cap) w := fun _ _ _ _ => rfl
  have heq : ∀ w, (binOp .eql 59 (.func (.func 56) #[.pointer (some ⟨f, 0, none⟩)] #[]) .nilFunc).run Tryd.prog w = .ok (.bool false) w := fun w => by kernel_rfl
  have hb : Below w.heap.size w (w.alloc (.cells #[.bool false] 4)) := (Below.refl _ w).alloc (Nat.le_refl _) _
  have hp1 := (hb.cell (p := ⟨p, 0, none⟩) (World.block_lt_of_cell? _ _ hp)).trans hp
  have ho := fmay_w (h.below hb) hl x
  rw [hm] at ho
  have hq : (w.alloc (.cells #[.bool false] 4)).heap[w.heap.size]? = some (.cells #[.bool false] 4 (0, 0)) := heap_alloc_new _ _
  have HQ := Hid.mk' hq
  have hbs := hb.size
  have hql : w.heap.size < (w.alloc (.cells #[.bool false] 4)).heap.size := by simp
  have HH : Hid (∀ w2, Below (w.alloc (.cells #[.bool false] 4)).heap.size (w.alloc (.cells #[.bool false] 4)) w2 → w2.cell? ⟨w.heap.size, 0, none⟩ = some (.bool false) ∧ w2.frozen? ⟨w.heap.size, 0, none⟩ = false ∧ (w2.setCell ⟨w.heap.size, 0, none⟩ (.bool b)).cell? ⟨w.heap.size, 0, none⟩ = some (.bool b) ∧ Below w.heap.size w (w2.setCell ⟨w.heap.size, 0, none⟩ (.bool b))) := fun w2 hb2 => by
    have hc2 := (hb2.block _ hql).trans hq
    have hs := heap_setCell_same w2 w.heap.size 0 _ 4 (.bool b) hc2
    refine ⟨by simp [World.cell?, hc2], by simp [World.frozen?, hc2], by simp [World.cell?, hs], ?_⟩
    have hk : Keep (fun k => k ≠ w.heap.size) w2 (w2.setCell ⟨w.heap.size, 0, none⟩ (.bool b)) := (Keep.refl _ w2).setCell (fun hn => hn rfl) _
    have hb3 := hb.trans (hb2.mono hbs)
    exact hb3.trans (hk.below hb3.size (fun k hk e => by omega))
  have HB := Hid.mk' hb
  clear h hp hm hq
  go_enter_defers Tryd.func99, Tryd.ntmps99
  go_wp2_with (first | (go_at_call 56; refine ho.mono ?_; rintro e w2 ⟨rfl, hb2⟩; obtain ⟨hc2, hf2, hx2, hy2⟩ := HH.out w2 hb2))
  refine leaves_cons (f := 100) (args := #[.pointer (some ⟨w.heap.size, 0, none⟩)]) (by simp) (by simp [go_sem]) ?_
  refine (idle_any ⟨w.heap.size, 0, none⟩ _).mono ?_
  rintro e u' w'' ⟨rfl, rfl, rfl⟩
  simp [Leaves, settle, results, Tryd.results99, go_sem, hx2]
  exact hy2

/-- The function that First is handed. -/
def mayV (f : Nat) : Value := .func (.func 56) #[.pointer (some ⟨f, 0, none⟩)] #[]

theorem ffirst_none (h : FIn w A f e gd H [] M) : ∃ g, w.cell? ⟨f, 0, none⟩ = some (.pointer (some ⟨g, 0, none⟩)) ∧ Calls Tryd.prog 55 #[.pointer (some ⟨g, 0, none⟩), .func (.func 56) #[.pointer (some ⟨f, 0, none⟩)] #[]] w fun r w' => r = .returned (.tuple #[.string ⟨#[]⟩, .bool false]) ∧ w' = w := by
  obtain ⟨g, g0, B, hd, -⟩ := h.drains
  exact ⟨g, g0, first_none _ _ _ w B g M hd⟩
theorem ffirst_yes {p : Dr} (h : FIn w A f e gd H (p :: L) M) (hv : Inv (p :: L) M) (hl : H.length ≤ 4000) (hm : mayF p.1 H e gd = true) : ∃ g, w.cell? ⟨f, 0, none⟩ = some (.pointer (some ⟨g, 0, none⟩)) ∧ Calls Tryd.prog 55 #[.pointer (some ⟨g, 0, none⟩), .func (.func 56) #[.pointer (some ⟨f, 0, none⟩)] #[]] w fun r w' => r = .returned (.tuple #[.string p.1, .bool true]) ∧ FIn w' A f e gd H L M ∧ Keep A w w' := by
  obtain ⟨g, g0, B, hd, hAB, -, hp⟩ := h.drains
  refine ⟨g, g0, ?_⟩
  have hb : Below w.heap.size w (w.alloc (.cells #[.func (.func 56) #[.pointer (some ⟨f, 0, none⟩)] #[]] 59)) := (Below.refl _ w).alloc (Nat.le_refl _) _
  have ha := asked_may (h.below hb) hl w.heap.size p.1 (by simp [go_sem]) true hm
  refine (first_yes _ _ _ w B g (p :: L) M (fun w' => Below w.heap.size w w') hd hv (by simp) (ha.mono fun r w' ⟨q1, q2⟩ => ⟨q1, hb.trans (q2.mono hb.size), keep_below (hb.trans (q2.mono hb.size))⟩)).mono ?_
  rintro r w' ⟨q1, w2, q2, q3, q4⟩
  exact ⟨q1, hp w' _ _ q3 ((keep_below q2).trans q4)⟩
theorem ffirst_no {p : Dr} (h : FIn w A f e gd H (p :: L) M) (hl : H.length ≤ 4000) (hm : mayF p.1 H e gd = false) : ∃ g, w.cell? ⟨f, 0, none⟩ = some (.pointer (some ⟨g, 0, none⟩)) ∧ Calls Tryd.prog 55 #[.pointer (some ⟨g, 0, none⟩), .func (.func 56) #[.pointer (some ⟨f, 0, none⟩)] #[]] w fun r w' => r = .returned (.tuple #[.string ⟨#[]⟩, .bool false]) ∧ Below w.heap.size w w' := by
  obtain ⟨g, g0, B, hd, hAB, -, hp⟩ := h.drains
  refine ⟨g, g0, ?_⟩
  have hb : Below w.heap.size w (w.alloc (.cells #[.func (.func 56) #[.pointer (some ⟨f, 0, none⟩)] #[]] 59)) := (Below.refl _ w).alloc (Nat.le_refl _) _
  have ha := asked_may (h.below hb) hl w.heap.size p.1 (by simp [go_sem]) false hm
  refine (first_no _ _ _ w B g (p :: L) M (fun w' => Below w.heap.size w w') hd (by simp) (ha.mono fun r w' ⟨q1, q2⟩ => ⟨q1, hb.trans (q2.mono hb.size), keep_below (hb.trans (q2.mono hb.size))⟩)).mono ?_
  rintro r w' ⟨q1, q2, q3⟩
  exact ⟨q1, q2⟩

/-- How long a slice is. -/
def lenV : Value → Nat
  | .slice _ n _ => n
  | _ => 0
theorem Inv.tail {p : Dr} (h : Inv (p :: L) M) : Inv L M ∧ p.1 ∉ nms L ∧ isIn p.1 M = false ∧ begL p.1 L M = L := by
  have h1 := h.n1
  have h2 : p.1 ∉ nms L ∧ (nms L).Nodup := by simpa [nms] using h1
  refine ⟨⟨h2.2, h.n2, fun x hx => h.apart x (by simp [nms] at hx ⊢; exact .inr hx), by have := h.few; simp at this; omega⟩, h2.1, isIn_not.2 (h.apart _ (by simp [nms])), ?_⟩
  unfold begL
  split
  · rfl
  · split
    · rfl
    · exact wo_not h2.1

/-- One text more is put behind a row of a call's own: the fleet lasts, and what is not the row. -/
theorem FIn.grown {w3 : World} {v v' : Value} (h : FIn w (fun k => A k ∨ v.ownBlock = some k) f e gd H L M) (hk0 : ∀ k, v.ownBlock = some k → k ≠ 0) (a0 : A 0) (hg : w.grownBy w3 v.ownBlock) (hv' : ∀ k, v'.ownBlock = some k → v.ownBlock = some k ∨ w.heap.size ≤ k) (hl : ∀ k, v'.ownBlock = some k → k < w3.heap.size) :
    FIn w3 (fun k => A k ∨ v'.ownBlock = some k) f e gd H L M := by
  have hk : Keep (fun k => v.ownBlock ≠ some k) w w3 := ⟨hg.os, hg.tape, hg.output, hg.size, fun k hk hA => hg.block k hk (fun e => hA e.symm)⟩
  refine h.keep (hk.mono ?_) ?_ ?_ (.inl a0)
  · rintro k _ (hn | rfl) e
    · exact hn (.inr e)
    · exact hk0 0 e rfl
  · rintro k (hk | hk)
    · exact .inl (.inl hk)
    · exact (hv' k hk).imp .inr id
  · rintro k (hk | hk)
    · exact Nat.lt_of_lt_of_le (h.guard k (.inl hk)) hg.size
    · exact hl k hk

/-- One text is put behind a row of texts. -/
theorem wpList_str1 (w : World) {ops : Array Oper} {rest : List Oper} {o : Oper} {a : Act} {Q : Exit → Act → World → Prop} (hgd : o.guard = none) (s x : Operand)
    (ho : o.op = .call { callee := .builtin .append, args := #[s, x], argTypes := #[27, 27] }) (base : Nat) (v : Value) (n : Nat) (l : List ByteArray) (t : ByteArray) (hs : a.eval s = v) (hown : w.ownsRow base 9 1 v n (sc l)) (ad : Addr) (c : Nat)
    (hx : a.eval x = .slice (some ad) 1 c) (hc : w.cell? (ad.add 0) = some (.string t)) (hn : n ≤ 4000) (hbase : base ≤ w.heap.size)
    (h : ∀ g cap w', w'.ownsRow base 9 1 (.slice (some ⟨g, 0, none⟩) (n + 1) cap) (n + 1) (sc (l ++ [t])) → w.grownBy w' v.ownBlock → (v.ownBlock = some g ∨ g = w.heap.size) → wpList Tryd.prog ops Q rest (a.put o.dst (.slice (some ⟨g, 0, none⟩) (n + 1) cap)) w') : wpList Tryd.prog ops Q (o :: rest) a w := by
  obtain ⟨i, hi, hz0, hz1, hz2⟩ := info_parts info9
  refine wpList_append_lies w hgd s x 27 ho base 9 i (.string ⟨#[]⟩) 1 16 Tryd.underlying27 hi hz0 hz1 hz2 rfl (by decide) v n _ hs hown ad 1 c [.string t] hx rfl (fun j u hj => ?_) (by simp [Value.oneCell']) (by decide) (by unfold maxLen; omega) (by omega) hbase _ rfl ?_
  · match j, hj with
    | 0, hj => simp at hj; subst hj; exact hc
  · intro g cap w' h1 h2 h3 _
    exact h g cap w' (by rw [sc_snoc]; exact h1) h2 h3

theorem may_is {x : ByteArray} {H : List Hs} {e gd : Int} (h : mayF x H e gd = true) : isH x H = true := by
  cases hx : isH x H with
  | true => rfl
  | false =>
    unfold mayF at h
    rw [pl_no hx, Gd.mayB_out (by omega)] at h
    cases h
theorem adm_yes {e gd d : Int} {H : List Hs} {p : Dr} {L M : List Dr} (h : mayF p.1 H e gd = true) : adm e gd d H (p :: L) M = ((adm e gd d (tnH (plN p.1 H) 0 H) L (begM p.1 d M)).1, p.1 :: (adm e gd d (tnH (plN p.1 H) 0 H) L (begM p.1 d M)).2) := by
  show (if _ then _ else _) = _
  rw [if_pos h]
theorem adm_no {e gd d : Int} {H : List Hs} {p : Dr} {L M : List Dr} (h : mayF p.1 H e gd = false) : adm e gd d H (p :: L) M = (⟨H, p :: L, M⟩, []) := by
  show (if _ then _ else _) = _
  rw [if_neg (by rw [h]; simp)]

set_option maxHeartbeats 2000000 in
set_option maxRecDepth 100000 in
theorem fadmit_w (h : FIn w A f e gd H L M) (hv : Inv L M) (d : Int) (hl : H.length ≤ 4000) (hm : M.length + L.length ≤ 4000) (hg : ∀ x ∈ nms L, nameB x = true) (F : Fl) (N : List ByteArray) (hFN : adm e gd d H L M = (F, N)) :
    Calls Tryd.prog 22 #[.pointer (some ⟨f, 0, none⟩), .int .i64 d] w fun r w' => ∃ v, r = .returned v ∧ w'.ownsRow w.heap.size 9 1 v N.length (sc N) ∧ FIn w' (fun k => A k ∨ v.ownBlock = some k) f e gd F.H F.L F.M ∧ Keep A w w' := by
  have hmf : ∀ (fn : Fn) (first cap : Array Value) (w : World), (Instr.makeFunc fn first cap).run Tryd.prog w = .ok (.func fn first cap) w := fun _ _ _ _ => rfl
  have hA0 := h.a0
  have hw0 : 0 < w.heap.size := h.tabs.pos
  have HF := Hid.mk' h
  have HGD : Hid (∀ k, A k → k < w.heap.size) := h.guard
  have HV := Hid.mk' hv
  have HG := Hid.mk' hg
  have HFN := Hid.mk' hFN
  generalize hn1 : H.length = n1 at *
  have HN1 := Hid.mk' hn1
  have hfew := hv.few
  generalize hn2 : L.length = n2 at *
  have HN2 := Hid.mk' hn2
  clear h hv hg hFN hn1 hn2
  go_enter Tryd.func22, Tryd.ntmps22
  go_wp2
  go_loopw [5] (fun v5 wr => ∃ H' L' M' O, wr.ownsRow w.heap.size 9 1 v5 O.length (sc O) ∧ FIn wr (fun k => A k ∨ v5.ownBlock = some k) f e gd H' L' M' ∧ Inv L' M' ∧ Keep A w wr ∧ H'.length = n1 ∧ O.length + L'.length = n2 ∧ M'.length + L'.length ≤ 4000 ∧ (∀ x ∈ nms L', nameB x = true) ∧ (adm e gd d H' L' M').1 = F ∧ O ++ (adm e gd d H' L' M').2 = N) (fun v5 _ => n2 + 1 - lenV v5)
  case atStart =>
    refine ⟨H, L, M, [], World.ownsRow_nil _ _ _ _, ?_, HV.out, Keep.refl _ _, HN1.out, by have := HN2.out; simpa using this, by have := HN2.out; omega, HG.out, by rw [HFN.out], by rw [HFN.out]; rfl⟩
    refine HF.out.fewer ?_ (.inl hA0)
    rintro k (hk | hk)
    · exact hk
    · cases hk
  case round =>
    clear HF HV HG HFN HN1 HN2
    obtain ⟨H', L', M', O, hown, hF, hv', hK, hlen, hOL, hML, hgo, had1, had2⟩ := hrel
    obtain ⟨a5, c5, rfl, -, hab⟩ := owns_strs hown
    have HOWN := Hid.mk' hown
    have HK := Hid.mk' hK
    have HF' := Hid.mk' hF
    have HV' := Hid.mk' hv'
    cases L' with
    | nil =>
      obtain ⟨g, g0, hfst⟩ := ffirst_none hF
      have HE : Hid (F = ⟨H', [], M'⟩ ∧ O = N) := ⟨had1.symm, by rw [← had2]; simp [adm]⟩
      clear hown hF hv' hK had1 had2 hgo hab
      generalize hn3 : O.length = n3 at *
      go_wp2_with (go_at_call 55; refine hfst.mono ?_; rintro e w' ⟨rfl, hw'⟩; subst w')
      go_ret
      obtain ⟨q1, q2⟩ := HE.out
      subst q1 q2 hn3
      exact ⟨_, rfl, HOWN.out, HF'.out, HK.out⟩
    | cons p L' =>
      cases hmy : mayF p.1 H' e gd with
      | false =>
        obtain ⟨g, g0, hfst⟩ := ffirst_no hF (by omega) hmy
        rw [adm_no hmy] at had1 had2
        have HE : Hid (F = ⟨H', p :: L', M'⟩ ∧ O = N) := ⟨had1.symm, by rw [← had2]; simp⟩
        clear hown hF hv' hK had1 had2 hgo hab hmy
        generalize hn3 : O.length = n3 at *
        go_wp2_with (go_at_call 55; refine hfst.mono ?_; rintro e w2 ⟨rfl, hb2⟩)
        go_ret
        obtain ⟨q1, q2⟩ := HE.out
        subst q1 q2 hn3
        exact ⟨_, rfl, owns_keep HOWN.out (keep_below (A := fun _ => True) hb2) (fun _ _ => trivial), HF'.out.below hb2, HK.out.trans (keep_below hb2)⟩
      | true =>
        obtain ⟨g, g0, hfst⟩ := ffirst_yes hF hv' (by omega) hmy
        rw [adm_yes hmy] at had1 had2
        have hx := may_is hmy
        obtain ⟨hvt, hnt, hmt, hbl⟩ := hv'.tail
        have hnm : nameB p.1 = true := hgo _ (by simp [nms])
        have hsz : p.1.size ≤ maxLen := by have := nameB_size hnm; unfold maxLen; omega
        have hOL' : O.length + (L'.length + 1) = n2 := by simpa using hOL
        have hML' : M'.length + (L'.length + 1) ≤ 4000 := by simpa using hML
        have HE : Hid ((∀ w5 v5, w5.ownsRow w.heap.size 9 1 v5 (O.length + 1) (sc (O ++ [p.1])) → FIn w5 (fun k => A k ∨ v5.ownBlock = some k) f e gd (tnH (plN p.1 H') 0 H') L' (begM p.1 d M') → Keep A w w5 →
            ∃ H2 L2 M2 O2, w5.ownsRow w.heap.size 9 1 v5 O2.length (sc O2) ∧ FIn w5 (fun k => A k ∨ v5.ownBlock = some k) f e gd H2 L2 M2 ∧ Inv L2 M2 ∧ Keep A w w5 ∧ H2.length = n1 ∧ O2.length + L2.length = n2 ∧ M2.length + L2.length ≤ 4000 ∧ (∀ x ∈ nms L2, nameB x = true) ∧ (adm e gd d H2 L2 M2).1 = F ∧ O2 ++ (adm e gd d H2 L2 M2).2 = N)) := by
          intro w5 v5 o5 f5 k5
          have hl1 : (O ++ [p.1]).length = O.length + 1 := by simp
          refine ⟨tnH (plN p.1 H') 0 H', L', begM p.1 d M', O ++ [p.1], by rw [hl1]; exact o5, f5, ?_, k5, by rw [tnH_length]; exact hlen, by rw [hl1]; omega, ?_, fun x hx => hgo x (by simp [nms] at hx ⊢; exact .inr hx), had1, ?_⟩
          · have := hvt.begun p.1 d
            rwa [hbl] at this
          · have := begM_len p.1 d M'
            omega
          · rw [← had2]; simp
        have HP : Hid (∀ w1, FIn w1 (fun k => A k ∨ (Value.slice a5 O.length c5).ownBlock = some k) f e gd H' L' M' → Calls Tryd.prog 58 #[.pointer (some ⟨f, 0, none⟩), .string p.1] w1 fun r w2 => r = .returned (.int .i64 (plN p.1 H' : Nat)) ∧ Below w1.heap.size w1 w2 ∧
            Calls Tryd.prog 57 #[.pointer (some ⟨f, 0, none⟩), .int .i64 (plN p.1 H' : Nat), .int .i64 0] w2 fun r w3 => r = .returned (.bool (St.did (atH H' (plN p.1 H')).st 0)) ∧ FIn w3 (fun k => A k ∨ (Value.slice a5 O.length c5).ownBlock = some k) f e gd (tnH (plN p.1 H') 0 H') L' M' ∧ Keep (fun k => A k ∨ (Value.slice a5 O.length c5).ownBlock = some k) w1 w3 ∧
              ∃ g, w3.cell? ⟨f, 0, none⟩ = some (.pointer (some ⟨g, 0, none⟩)) ∧ Calls Tryd.prog 59 #[.pointer (some ⟨g, 0, none⟩), .string p.1, .int .i64 d] w3 fun r w4 => r = .returned (.int .i64 (begE p.1 M')) ∧ FIn w4 (fun k => A k ∨ (Value.slice a5 O.length c5).ownBlock = some k) f e gd (tnH (plN p.1 H') 0 H') L' (begM p.1 d M') ∧ Keep (fun k => A k ∨ (Value.slice a5 O.length c5).ownBlock = some k) w1 w4) := by
          intro w1 h1
          have hp := fplace_w h1 p.1
          rw [(pl_yes hx).1] at hp
          refine hp.mono fun r w2 ⟨q1, q2⟩ => ⟨q1, q2, ?_⟩
          refine (fturn_w (h1.below q2) _ (pl_yes hx).2 0).mono fun r w3 ⟨r1, r2, r3⟩ => ⟨r1, r2, (keep_below q2).trans r3, ?_⟩
          obtain ⟨g, g0, hb⟩ := r2.begins hvt p.1 d hsz (by omega)
          rw [hbl] at hb
          exact ⟨g, g0, hb.mono fun r w4 ⟨s1, s2, s3⟩ => ⟨s1, s2, ((keep_below q2).trans r3).trans s3⟩⟩
        have HO : Hid (∀ w4, Keep (fun k => A k ∨ (Value.slice a5 O.length c5).ownBlock = some k) wr w4 → w4.ownsRow w.heap.size 9 1 (.slice a5 O.length c5) O.length (sc O) ∧ Keep A w w4 ∧ w.heap.size ≤ w4.heap.size) := fun w4 hk => ⟨owns_keep HOWN.out hk (fun k hk => .inr hk), hK.trans (hk.mono fun k _ hA => .inl hA), Nat.le_trans hK.size hk.size⟩
        have HG2 : Hid (∀ (w4 w5 : World) (v5 : Value), FIn w4 (fun k => A k ∨ (Value.slice a5 O.length c5).ownBlock = some k) f e gd (tnH (plN p.1 H') 0 H') L' (begM p.1 d M') → Keep A w w4 → w.heap.size ≤ w4.heap.size → (w4.alloc (.cells #[.string p.1] 9)).grownBy w5 (Value.slice a5 O.length c5).ownBlock → w5.ownsRow w.heap.size 9 1 v5 (O.length + 1) (sc (O ++ [p.1])) → (∀ k, v5.ownBlock = some k → (Value.slice a5 O.length c5).ownBlock = some k ∨ (w4.alloc (.cells #[.string p.1] 9)).heap.size ≤ k) → FIn w5 (fun k => A k ∨ v5.ownBlock = some k) f e gd (tnH (plN p.1 H') 0 H') L' (begM p.1 d M') ∧ Keep A w w5) := by
          intro w4 w5 v5 h4 k4 s4 g5 o5 hnew
          have hba : Below w4.heap.size w4 (w4.alloc (.cells #[.string p.1] 9)) := (Below.refl _ w4).alloc (Nat.le_refl _) _
          have hne : ∀ k, (Value.slice a5 O.length c5).ownBlock = some k → w.heap.size ≤ k := fun k hk => (HOWN.out.lt k hk).1
          refine ⟨(h4.below hba).grown (fun k hk => by have := hne k hk; omega) hA0 g5 hnew (fun k hk => (o5.lt k hk).2), (k4.trans (keep_below hba)).trans ?_⟩
          exact ⟨g5.os, g5.tape, g5.output, g5.size, fun k hk hA => g5.block k hk (fun e => by
            have h6 := hne k e.symm
            have := HGD.out k hA
            omega)⟩
        have hb3 : O.length ≤ 4000 := by omega
        have hc3 : O.length < n2 := by omega
        clear hown hF hv' hK had1 had2 hgo hab hmy hx hvt hnt hmt hbl hnm hsz hlen hOL hML hOL' hML' HF' HV' HK
        generalize plN p.1 H' = pn at *
        generalize tnH pn 0 H' = H2 at *
        generalize begM p.1 d M' = M2 at *
        generalize hpx : p.1 = x at *
        clear hpx
        generalize hn3 : O.length = n3 at *
        go_wp2_with (first
          | (go_at_call 55; refine hfst.mono ?_; rintro e w1 ⟨rfl, hf1, hk1⟩; have hp := HP.out w1 hf1)
          | (go_at_call 58; refine hp.mono ?_; rintro e w2 ⟨rfl, hb2, ht⟩)
          | (go_at_call 57; refine ht.mono ?_; rintro e w3 ⟨rfl, hf3, hk3, g', g0', hbg⟩)
          | (go_at_call 59; refine hbg.mono ?_; rintro e w4 ⟨rfl, hf4, hk4⟩; obtain ⟨hown4, hK4, hs4⟩ := HO.out w4 (hk1.trans hk4); clear hk1 hk4 hk3)
          | (at_builtin; refine wpList_str1 _ rfl _ _ rfl w.heap.size (.slice a5 n3 c5) n3 O x rfl (hown4.alloc _) _ 1 rfl (news_one w4 (.string x) 9 0 _ rfl) hb3 (by simp; omega) ?_; intro g5 c6 w5 o5 gr5 at5))
        obtain ⟨f5, k5⟩ := HG2.out w4 w5 _ hf4 hK4 hs4 gr5 o5 (fun k hk => by
          have e : g5 = k := by simpa [Value.ownBlock] using hk
          subst e
          exact at5.imp id (fun h => by omega))
        have HR := Hid.mk' (HE.out w5 _ o5 f5 k5)
        clear o5 f5 k5 gr5 at5 hf4 hK4 hs4 hown4 hf3 hb2 hf1
        go_wp2
        exact ⟨HR.out, by simp [lenV]; omega⟩
end

end Go.Proofs.YtmlkpfkeeifgeaaDoor
