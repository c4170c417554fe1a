/-
  What Undrain and Empty do. Conditions: a fleet lies where it is said to lie, and drains; of its drains none stands twice; a name is no longer than the greatest length.
-/
import Derived.Test.YtmlkpfkeeifgeaaDoorFOps
import Derived.Test.YtmlkpfkeeifgeaaDoorFDel
namespace Go.Proofs.YtmlkpfkeeifgeaaDoor
open Go.ChangeShapes Go.WideShapes Go.ChangeAt Go.RowKit

section
variable {w : World} {A : Nat → Prop} {f : Nat} {e gd : Int} {s : Fl}

theorem isIn_plc {x : ByteArray} {L : List Dr} : (isIn x L = true → (plc x (nms L) == -1) = false) ∧ (isIn x L = false → plc x (nms L) = -1) := by
  constructor
  · intro h
    rw [plc_mem (isIn_iff.1 h)]
    exact beq_eq_false_iff_ne.2 (by omega)
  · intro h
    exact plc_not (isIn_not.1 h)

set_option maxHeartbeats 1000000 in
theorem fundrain_w (h : FIn w A f e gd s.H s.L s.M) (hv : Inv s.L s.M) (x : ByteArray) (hs : x.size ≤ maxLen) :
    Calls Tryd.prog 32 #[.pointer (some ⟨f, 0, none⟩), .string x] w fun r w' => r = .returned (.int .i64 (unE x s)) ∧ FIn w' A f e gd (unS x s).H (unS x s).L (unS x s).M ∧ Keep A w w' := by
  have hf := ffind_w h x hs _ _ rfl rfl
  have HF := Hid.mk' h
  by_cases hE : errF x s.H = 0
  · obtain ⟨hnm, hx⟩ := errF_ok hE
    obtain ⟨b, c, c3, hle, hcm, hfl, hb, y1, y2, p0, p1, p2⟩ := h.host hx
    rw [hE, if_pos rfl, (pl_yes hx).1] at hf
    have HA : Hid (∀ w', Below w.heap.size w w' → Calls Tryd.prog 24 #[.pointer (some ⟨f, 0, none⟩), .string x] w' fun r w'' => r = .returned (.int .i64 (plc x (nms s.L))) ∧ Below w'.heap.size w' w'') := fun w' hb => fahead_w (h.below hb) x
    have HT : Hid (∀ w', Below w.heap.size w w' → Calls Tryd.prog 57 #[.pointer (some ⟨f, 0, none⟩), .int .i64 (plN x s.H : Nat), .int .i64 1] w' fun r w'' => r = .returned (.bool (St.did (ofN x s.H).st 1)) ∧ FIn w'' A f e gd (tnH (plN x s.H) 1 s.H) s.L s.M ∧ Keep A w' w'') := fun w' hb => fturn_w (h.below hb) _ p2 1
    have HN : Hid (∀ H' w', FIn w' A f e gd H' s.L s.M → ∃ g, w'.cell? ⟨f, 0, none⟩ = some (.pointer (some ⟨g, 0, none⟩)) ∧ Calls Tryd.prog 64 #[.pointer (some ⟨g, 0, none⟩), .string x] w' fun r w'' => r = .returned (.bool (isIn x s.L || isIn x s.M)) ∧ FIn w'' A f e gd H' (wo x s.L) (wo x s.M) ∧ Keep A w' w'') := fun H' w' h' => FIn.ends (s := ⟨H', s.L, s.M⟩) h' hv x
    have hpl := isIn_plc (x := x) (L := s.L)
    have HB : Hid (∀ w', Below w.heap.size w w' → FIn w' A f e gd s.H s.L s.M) := fun w' hb => h.below hb
    cases hlv : (ofN x s.H).lv with
    | true =>
      have q1 : unE x s = 8 := by unfold unE; rw [if_pos hE, if_pos hlv]
      have q2 : unS x s = s := by unfold unS; rw [q1]; rfl
      rw [q1, q2]
      rw [hlv] at y2
      unfold maxLen at hcm
      clear h hE hx q1 q2 hpl
      generalize plN x s.H = p at *
      generalize s.H.length = n at *
      go_enter Tryd.func32, Tryd.ntmps32
      go_wp2_with (go_at_call 60; refine hf.mono ?_; rintro e w1 ⟨rfl, hb1⟩; have z3 := (hb1.cell (p := ⟨f, 3, none⟩) hfl).trans c3; have z1 := (hb1.cell (p := ⟨b, p * 3 + 2, none⟩) hb).trans y2)
      go_ret
      exact ⟨rfl, HF.out.below hb1, keep_below hb1⟩
    | false =>
      rw [hlv] at y2
      cases hin : isIn x s.L with
      | true =>
        have q1 : unE x s = 0 := by unfold unE; rw [if_pos hE, hlv, hin]; rfl
        have q2 : unS x s = ⟨s.H, wo x s.L, wo x s.M⟩ := by unfold unS; rw [if_pos q1, if_pos hin]
        rw [q1, q2]
        have hp1 := hpl.1 hin
        unfold maxLen at hcm
        clear h hE hx q1 q2 hpl hin
        generalize plc x (nms s.L) = P at *
        generalize plN x s.H = p at *
        generalize s.H.length = n at *
        go_enter Tryd.func32, Tryd.ntmps32
        go_wp2_with (first
          | (go_at_call 60; refine hf.mono ?_; rintro e w1 ⟨rfl, hb1⟩; have z3 := (hb1.cell (p := ⟨f, 3, none⟩) hfl).trans c3; have z1 := (hb1.cell (p := ⟨b, p * 3 + 2, none⟩) hb).trans y2; have ha := HA.out w1 hb1)
          | (go_at_call 24; refine ha.mono ?_; rintro e w2 ⟨rfl, hb2⟩; obtain ⟨g, g0, hn⟩ := HN.out _ w2 (HB.out w2 (hb1.trans (hb2.mono hb1.size))))
          | (go_at_call 64; refine hn.mono ?_; rintro e w3 ⟨rfl, hf3, hk3⟩))
        go_ret
        exact ⟨rfl, hf3, (keep_below (hb1.trans (hb2.mono hb1.size))).trans hk3⟩
      | false =>
        have hp1 := hpl.2 hin
        rw [hp1] at HA
        cases hd : St.did (ofN x s.H).st 1 with
        | true =>
          have q1 : unE x s = 0 := by unfold unE; rw [if_pos hE, hlv, hd, hin]; rfl
          have q2 : unS x s = ⟨tnH (plN x s.H) 1 s.H, wo x s.L, wo x s.M⟩ := by unfold unS; rw [if_pos q1, if_neg (by rw [hin]; simp)]
          rw [q1, q2]
          rw [hd] at HT
          unfold maxLen at hcm
          clear h hE hx q1 q2 hpl hin hd
          generalize tnH (plN x s.H) 1 s.H = H2 at *
          generalize plN x s.H = p at *
          generalize s.H.length = n at *
          go_enter Tryd.func32, Tryd.ntmps32
          go_wp2_with (first
            | (go_at_call 60; refine hf.mono ?_; rintro e w1 ⟨rfl, hb1⟩; have z3 := (hb1.cell (p := ⟨f, 3, none⟩) hfl).trans c3; have z1 := (hb1.cell (p := ⟨b, p * 3 + 2, none⟩) hb).trans y2; have ha := HA.out w1 hb1)
            | (go_at_call 24; refine ha.mono ?_; rintro e w2 ⟨rfl, hb2⟩; have ht := HT.out w2 (hb1.trans (hb2.mono hb1.size)))
            | (go_at_call 57; refine ht.mono ?_; rintro e w3 ⟨rfl, hf3, hk3⟩; obtain ⟨g, g0, hn⟩ := HN.out _ w3 hf3)
            | (go_at_call 64; refine hn.mono ?_; rintro e w4 ⟨rfl, hf4, hk4⟩))
          go_ret
          exact ⟨rfl, hf4, ((keep_below (hb1.trans (hb2.mono hb1.size))).trans hk3).trans hk4⟩
        | false =>
          have q1 : unE x s = 8 := by unfold unE; rw [if_pos hE, hlv, hd, hin]; rfl
          have q2 : unS x s = s := by unfold unS; rw [q1]; rfl
          rw [q1, q2]
          rw [hd, tnH_still hx hd] at HT
          unfold maxLen at hcm
          clear h hE hx q1 q2 hpl hin hd
          generalize plN x s.H = p at *
          generalize hnn : s.H.length = n at *
          go_enter Tryd.func32, Tryd.ntmps32
          go_wp2_with (first
            | (go_at_call 60; refine hf.mono ?_; rintro e w1 ⟨rfl, hb1⟩; have z3 := (hb1.cell (p := ⟨f, 3, none⟩) hfl).trans c3; have z1 := (hb1.cell (p := ⟨b, p * 3 + 2, none⟩) hb).trans y2; have ha := HA.out w1 hb1)
            | (go_at_call 24; refine ha.mono ?_; rintro e w2 ⟨rfl, hb2⟩; have ht := HT.out w2 (hb1.trans (hb2.mono hb1.size)))
            | (go_at_call 57; refine ht.mono ?_; rintro e w3 ⟨rfl, hf3, hk3⟩))
          go_ret
          exact ⟨rfl, hf3, (keep_below (hb1.trans (hb2.mono hb1.size))).trans hk3⟩
  · have hd : unE x s = errF x s.H := by unfold unE; rw [if_neg hE]
    have hsS : unS x s = s := by unfold unS; rw [hd, if_neg hE]
    rw [if_neg hE] at hf
    rw [hd, hsS]
    have hE' : (errF x s.H != 0) = true := bne_iff_ne.2 hE
    generalize errF x s.H = E at *
    clear h hE hd
    go_enter Tryd.func32, Tryd.ntmps32
    go_wp2_with (go_at_call 60; refine hf.mono ?_; rintro e w1 ⟨rfl, hb1⟩)
    go_ret
    exact ⟨rfl, HF.out.below hb1, keep_below hb1⟩

/-- One host is taken out of the row. -/
theorem FIn.erase {H : List Hs} {L M : List Dr} (h : FIn w A f e gd H L M) {b c i j : Nat} (hc : w.cell? ⟨f, 3, none⟩ = some (.slice (some ⟨b, 0, none⟩) H.length c)) (hi : i < H.length) (hj : i + 1 = j) :
    Calls Tryd.prog 65 #[.slice (some ⟨b, 0, none⟩) H.length c, .int .i64 i, .int .i64 j] w fun r w' => r = .returned (.slice (some ⟨b, 0, none⟩) (H.length - 1) c) ∧ w'.cell? ⟨f, 3, none⟩ = some (.slice (some ⟨b, 0, none⟩) H.length c) ∧ w'.frozen? ⟨f, 3, none⟩ = false ∧
      FIn (w'.setCell ⟨f, 3, none⟩ (.slice (some ⟨b, 0, none⟩) (H.length - 1) c)) A f e gd (H.eraseIdx i) L M ∧ Keep A w (w'.setCell ⟨f, 3, none⟩ (.slice (some ⟨b, 0, none⟩) (H.length - 1) c)) := by
  have h0 := h
  obtain ⟨g, a, c', h1, h2, h3, h4⟩ := h.ex
  obtain ⟨g0, -, -, c3, -⟩ := blk4 h1
  have c3' := c3
  rw [hc] at c3
  injection c3 with c3
  injection c3 with q1 q2 q3
  subst q1 q3
  have hb : ¬ A b ∧ b ≠ f := h3 b ⟨_, rfl, rfl⟩
  refine (fdelete_any w 0 b H.length c i j H h2 hi hj).mono fun r w' ⟨r1, r2, r3⟩ => ?_
  have hf' : w'.heap[f]? = _ := (r3.block f (lt_of_heap h1) (fun e => hb.2 e.symm)).trans h1
  refine ⟨r1, (blk4 hf').2.2.2.1, fz4 hf' 3, ?_⟩
  refine h0.newRow (B := fun k => A k ∨ k = f ∨ bk (some ⟨b, 0, none⟩) k) g0 (r3.mono ?_) ?_ (fun k hk => hk) (List.length_eraseIdx_of_lt hi) r2 h3
  · rintro k _ (hk | rfl) rfl
    · exact hb.1 hk
    · exact hb.2 rfl
  · refine h4.keep (r3.mono fun k _ hn e => hn (.inr (.inr ⟨_, rfl, e.symm⟩))) (fun k hk => .inl hk) (fun k hk => Nat.lt_of_lt_of_le (h4.guard k hk) r3.size)

set_option maxHeartbeats 1000000 in
theorem fempty_w (h : FIn w A f e gd s.H s.L s.M) (hv : Inv s.L s.M) (x : ByteArray) :
    Calls Tryd.prog 30 #[.pointer (some ⟨f, 0, none⟩), .string x] w fun r w' => r = .returned (.bool (emB x s)) ∧ FIn w' A f e gd (emS x s).H (emS x s).L (emS x s).M ∧ Keep A w w' := by
  have hp := fplace_w h x
  have HF := Hid.mk' h
  cases hx : isH x s.H with
  | false =>
    rw [pl_no hx] at hp
    have e1 : emB x s = false := by unfold emB; rw [hx]; rfl
    have e2 : emS x s = s := by unfold emS; rw [e1]; rfl
    rw [e1, e2]
    clear h
    go_enter Tryd.func30, Tryd.ntmps30
    go_wp2_with (first
      | (go_at_call 58; refine hp.mono ?_; rintro e w2 ⟨rfl, hb2⟩)
      | (go_at_call 57; refine (fturn_no _ _ _).mono ?_; rintro e w' ⟨rfl, hw'⟩; subst w'))
    go_ret
    exact ⟨rfl, HF.out.below hb2, keep_below hb2⟩
  | true =>
    rw [(pl_yes hx).1] at hp
    have hlt := (pl_yes hx).2
    have HT : Hid (∀ w', Below w.heap.size w w' → Calls Tryd.prog 57 #[.pointer (some ⟨f, 0, none⟩), .int .i64 (plN x s.H : Nat), .int .i64 4] w' fun r w'' => r = .returned (.bool (St.did (ofN x s.H).st 4)) ∧ FIn w'' A f e gd (tnH (plN x s.H) 4 s.H) s.L s.M ∧ Keep A w' w'') := fun w' hb => fturn_w (h.below hb) _ (pl_yes hx).2 4
    cases hd : St.did (ofN x s.H).st 4 with
    | false =>
      have e1 : emB x s = false := by unfold emB; rw [hx, hd]; rfl
      have e2 : emS x s = s := by unfold emS; rw [e1]; rfl
      rw [e1, e2]
      rw [hd, tnH_still hx hd] at HT
      clear h hx hd e1 e2 hlt
      generalize plN x s.H = p at *
      go_enter Tryd.func30, Tryd.ntmps30
      go_wp2_with (first
        | (go_at_call 58; refine hp.mono ?_; rintro e w2 ⟨rfl, hb2⟩; have ht := HT.out w2 hb2)
        | (go_at_call 57; refine ht.mono ?_; rintro e w3 ⟨rfl, hf3, hk3⟩))
      go_ret
      exact ⟨rfl, hf3, (keep_below hb2).trans hk3⟩
    | true =>
      have e1 : emB x s = true := by unfold emB; rw [hx, hd]; rfl
      have e2 : emS x s = ⟨if (ofN x s.H).lv = true then s.H.eraseIdx (plN x s.H) else tnH (plN x s.H) 4 s.H, wo x s.L, wo x s.M⟩ := by unfold emS; rw [if_pos e1]
      rw [e1, e2]
      rw [hd] at HT
      have HN : Hid (∀ H' w', FIn w' A f e gd H' s.L s.M → ∃ g, w'.cell? ⟨f, 0, none⟩ = some (.pointer (some ⟨g, 0, none⟩)) ∧ Calls Tryd.prog 64 #[.pointer (some ⟨g, 0, none⟩), .string x] w' fun r w'' => r = .returned (.bool (isIn x s.L || isIn x s.M)) ∧ FIn w'' A f e gd H' (wo x s.L) (wo x s.M) ∧ Keep A w' w'') := fun H' w' h' => FIn.ends (s := ⟨H', s.L, s.M⟩) h' hv x
      have hlv : (atH (tnH (plN x s.H) 4 s.H) (plN x s.H)).lv = (ofN x s.H).lv := by
        unfold tnH setS ofN
        unfold atH
        simp [List.getD, hlt]
      have her : (tnH (plN x s.H) 4 s.H).eraseIdx (plN x s.H) = s.H.eraseIdx (plN x s.H) := by
        unfold tnH setS
        rw [List.eraseIdx_set_eq]
      have HC : Hid (∀ w', FIn w' A f e gd (tnH (plN x s.H) 4 s.H) (wo x s.L) (wo x s.M) → ∃ b c, w'.cell? ⟨f, 3, none⟩ = some (.slice (some ⟨b, 0, none⟩) s.H.length c) ∧ s.H.length ≤ c ∧ c ≤ maxLen ∧ w'.cell? ⟨b, plN x s.H * 3 + 2, none⟩ = some (.bool (ofN x s.H).lv) ∧
          Calls Tryd.prog 65 #[.slice (some ⟨b, 0, none⟩) s.H.length c, .int .i64 (plN x s.H : Nat), .int .i64 ((plN x s.H + 1 : Nat) : Int)] w' fun r w'' => r = .returned (.slice (some ⟨b, 0, none⟩) (s.H.length - 1) c) ∧ w''.cell? ⟨f, 3, none⟩ = some (.slice (some ⟨b, 0, none⟩) s.H.length c) ∧ w''.frozen? ⟨f, 3, none⟩ = false ∧
            FIn (w''.setCell ⟨f, 3, none⟩ (.slice (some ⟨b, 0, none⟩) (s.H.length - 1) c)) A f e gd (s.H.eraseIdx (plN x s.H)) (wo x s.L) (wo x s.M) ∧ Keep A w' (w''.setCell ⟨f, 3, none⟩ (.slice (some ⟨b, 0, none⟩) (s.H.length - 1) c))) := fun w' h' => by
        have hln : (tnH (plN x s.H) 4 s.H).length = s.H.length := tnH_length _ _ _
        obtain ⟨g, a, c, -, -, -, c3, -, hle, hcm, hfl, -, hrow⟩ := h'.cells
        obtain ⟨b, rfl, hb, -, -, y2, -⟩ := hrow (plN x s.H) (by omega)
        have hers := h'.erase (i := plN x s.H) c3 (by omega) rfl
        rw [hln] at c3 hle
        rw [hlv] at y2
        rw [her, hln] at hers
        exact ⟨b, c, c3, hle, hcm, y2, hers⟩
      have hwr : ∀ c : Nat, c ≤ maxLen → s.H.length ≤ c → IntKind.i64.wrap (((plN x s.H : Nat) : Int) + 1) = ((plN x s.H + 1 : Nat) : Int) := fun c h1 h2 => by
        unfold maxLen at h1
        rw [show ((plN x s.H + 1 : Nat) : Int) = ((plN x s.H : Nat) : Int) + 1 by omega]
        simp [IntKind.wrap, IntKind.signed, IntKind.bits]
        omega
      have HWR := Hid.mk' hwr
      have hin : ((plN x s.H : Nat) : Int) < (s.H.length : Int) := by omega
      generalize s.H.eraseIdx (plN x s.H) = H3 at *
      generalize tnH (plN x s.H) 4 s.H = H2 at *
      generalize (ofN x s.H).lv = lv at *
      clear h hx hd e1 e2 hlv her hwr
      generalize plN x s.H = p at *
      generalize s.H.length = n at *
      generalize hpj : p + 1 = j at *
      cases lv with
      | false =>
        go_enter Tryd.func30, Tryd.ntmps30
        go_wp2_with (first
          | (go_at_call 58; refine hp.mono ?_; rintro e w2 ⟨rfl, hb2⟩; have ht := HT.out w2 hb2)
          | (go_at_call 57; refine ht.mono ?_; rintro e w3 ⟨rfl, hf3, hk3⟩; obtain ⟨g, g0, hn⟩ := HN.out _ w3 hf3)
          | (go_at_call 64; refine hn.mono ?_; rintro e w4 ⟨rfl, hf4, hk4⟩; obtain ⟨b, c, z3, hle, hcm, z2, -⟩ := HC.out w4 hf4; unfold maxLen at hcm))
        go_ret
        exact ⟨rfl, hf4, ((keep_below hb2).trans hk3).trans hk4⟩
      | true =>
        go_enter Tryd.func30, Tryd.ntmps30
        go_wp2_with (first
          | (go_at_call 58; refine hp.mono ?_; rintro e w2 ⟨rfl, hb2⟩; have ht := HT.out w2 hb2)
          | (go_at_call 57; refine ht.mono ?_; rintro e w3 ⟨rfl, hf3, hk3⟩; obtain ⟨g, g0, hn⟩ := HN.out _ w3 hf3)
          | (go_at_call 64; refine hn.mono ?_; rintro e w4 ⟨rfl, hf4, hk4⟩; obtain ⟨b, c, z3, hle, hcm, z2, hdl⟩ := HC.out w4 hf4; have hwj := HWR.out c hcm hle; unfold maxLen at hcm)
          | (go_at_call 65; refine hdl.mono ?_; rintro e w5 ⟨rfl, z5, zf, hf5, hk5⟩))
        go_ret
        exact ⟨rfl, hf5, (((keep_below hb2).trans hk3).trans hk4).trans hk5⟩
end

end Go.Proofs.YtmlkpfkeeifgeaaDoor
