/-
  What enter and Resolve do. Conditions: a fleet lies where it is said to lie, of at most 3900 hosts, and drains; of its drains none stands twice; a name is no longer than the greatest length; the list lies in none of its blocks.
-/
import Derived.Test.YtmlkpfkeeifgeaaDoorFLv
namespace Go.Proofs.YtmlkpfkeeifgeaaDoor
open Go.ChangeShapes Go.WideShapes Go.ChangeAt Go.RowKit

/-- The state of enter's walk: the names that came (v5), the fleet between. -/
structure EnW (w0 : World) (A : Nat → Prop) (f : Nat) (e gd : Int) (O : List ByteArray) (s : Fl) (v5 : Value) (w : World) : Prop where
  o5 : w.ownsRow w0.heap.size 9 1 v5 O.length (sc O)
  fin : FIn w (fun k => A k ∨ v5.ownBlock = some k) f e gd s.H s.L s.M
  inv : Inv s.L s.M
  kp : Keep A w0 w
  g0 : ∀ k, A k → k < w0.heap.size
  a0 : A 0
  pos : 0 < w0.heap.size

section
variable {w0 w w' : World} {A : Nat → Prop} {f : Nat} {e gd : Int} {O : List ByteArray} {s t : Fl} {v5 : Value}
theorem EnW.start (h : FIn w0 A f e gd s.H s.L s.M) (hv : Inv s.L s.M) : EnW w0 A f e gd [] s (.slice none 0 0) w0 :=
  ⟨World.ownsRow_nil _ _ _ _, h.fewer (fun k hk => by rcases hk with hk | hk; exact hk; cases hk) (.inl h.a0), hv, Keep.refl _ _, h.guard, h.a0, h.tabs.pos⟩
theorem EnW.below (h : EnW w0 A f e gd O s v5 w) (hb : Below w.heap.size w w') : EnW w0 A f e gd O s v5 w' :=
  ⟨owns_keep h.o5 (keep_below (A := fun _ => True) hb) (fun _ _ => trivial), h.fin.below hb, h.inv, h.kp.trans (keep_below hb), h.g0, h.a0, h.pos⟩
theorem EnW.write (h : EnW w0 A f e gd O s v5 w) (hf : FIn w' (fun k => A k ∨ v5.ownBlock = some k) f e gd t.H t.L t.M) (hk : Keep (fun k => A k ∨ v5.ownBlock = some k) w w') (hv : Inv t.L t.M) : EnW w0 A f e gd O t v5 w' :=
  ⟨owns_keep h.o5 hk (fun _ hk => .inr hk), hf, hv, h.kp.trans (hk.mono fun _ _ hA => .inl hA), h.g0, h.a0, h.pos⟩
theorem EnW.app (h : EnW w0 A f e gd O s v5 w) {x : ByteArray} {g c n : Nat} (hn : O.length = n) (ho : w'.ownsRow w0.heap.size 9 1 (.slice (some ⟨g, 0, none⟩) (n + 1) c) (n + 1) (sc (O ++ [x]))) (hg : w.grownBy w' v5.ownBlock) (hat : v5.ownBlock = some g ∨ g = w.heap.size) :
    EnW w0 A f e gd (O ++ [x]) s (.slice (some ⟨g, 0, none⟩) (n + 1) c) w' := by
  subst hn
  have hk : Keep (fun k => v5.ownBlock ≠ some k) w w' := ⟨hg.os, hg.tape, hg.output, hg.size, fun k hk hA => hg.block k hk (fun e => hA e.symm)⟩
  have hge : ∀ k, v5.ownBlock = some k → w0.heap.size ≤ k := fun k hk => (h.o5.lt k hk).1
  have hl1 : (O ++ [x]).length = O.length + 1 := by simp
  refine ⟨by rw [hl1]; exact ho, ?_, h.inv, h.kp.trans (hk.mono fun k _ hA e => by have := hge k e; have := h.g0 k hA; omega), h.g0, h.a0, h.pos⟩
  refine h.fin.grown (fun k hk => by have := hge k hk; have := h.pos; omega) h.a0 hg (fun k hk => ?_) (fun k hk => (ho.lt k hk).2)
  have e : g = k := by simpa [Value.ownBlock] using hk
  subst e
  exact hat.imp id (fun h => Nat.le_of_eq h.symm)
end


/-- What the fleet's row wants so that one more host is put behind it, and what comes of it. -/
theorem FIn.push {w : World} {A : Nat → Prop} {f : Nat} {e gd : Int} {H : List Hs} {L M : List Dr} (h : FIn w A f e gd H L M) : ∃ a c, w.cell? ⟨f, 3, none⟩ = some (.slice a H.length c) ∧ w.ownsRow 0 97 3 (.slice a H.length c) H.length (hcs H) ∧
    ∀ (w1 w3 : World) (g' c' : Nat) (x : Hs), Below w.heap.size w w1 → w3.ownsRow 0 97 3 (.slice (some ⟨g', 0, none⟩) (H.length + 1) c') (H.length + 1) (hcs (H ++ [x])) → w1.grownBy w3 (Value.slice a H.length c).ownBlock → ((Value.slice a H.length c).ownBlock = some g' ∨ g' = w1.heap.size) →
      w3.cell? ⟨f, 3, none⟩ = some (.slice a H.length c) ∧ w3.frozen? ⟨f, 3, none⟩ = false ∧ FIn (w3.setCell ⟨f, 3, none⟩ (.slice (some ⟨g', 0, none⟩) (H.length + 1) c')) A f e gd (H ++ [x]) L M ∧ Keep A w (w3.setCell ⟨f, 3, none⟩ (.slice (some ⟨g', 0, none⟩) (H.length + 1) c')) := by
  have h0 := h
  obtain ⟨g, a, c, h1, h2, h3, h4⟩ := h.ex
  have hlt := lt_of_heap h1
  refine ⟨a, c, (blk4 h1).2.2.2.1, h2, ?_⟩
  intro w1 w3 g' c' x hb ho hg hat
  have h11 := (hb.block f hlt).trans h1
  have hk : Keep (fun k => (Value.slice a H.length c).ownBlock ≠ some k) w1 w3 := ⟨hg.os, hg.tape, hg.output, hg.size, fun k hk hA => hg.block k hk (fun e => hA e.symm)⟩
  have hkA : Keep (fun k => A k ∨ k = f) w1 w3 := hk.mono (fun k _ hA e => by
    have := h3 k (own_bk.1 e)
    rcases hA with hA | hA
    · exact this.1 hA
    · exact this.2 hA)
  have h13 : w3.heap[f]? = _ := (hkA.block f (Nat.lt_of_lt_of_le hlt hb.size) (.inr rfl)).trans h11
  have hd1 := h4.keep (w' := w1) (B := fun k => A k ∨ k = f ∨ bk a k) (keep_below hb) (fun k hk => .inl hk) (fun k hk => Nat.lt_of_lt_of_le (h4.guard k hk) hb.size)
  have hg3 : g' < w3.heap.size := (ho.lt g' rfl).2
  have hd3 := hd1.keep (w' := w3) (B := fun k => (A k ∨ k = f ∨ bk a k) ∨ k = g') (hk.mono fun k _ hn e => hn (.inr (.inr (own_bk.1 e)))) (by
    rintro k (hk | rfl)
    · exact .inl hk
    · exact hat.imp (fun e => .inr (.inr (own_bk.1 e))) (fun e => Nat.le_of_eq e.symm)) (by
    rintro k (hk | rfl)
    · exact Nat.lt_of_lt_of_le (hd1.guard k hk) hg.size
    · exact hg3)
  have hn := (h0.below hb).newRow (w3 := w3) (B := fun k => (A k ∨ k = f ∨ bk a k) ∨ k = g') (g := g) (a := some ⟨g', 0, none⟩) (c := c') (n := H.length + 1) (H' := H ++ [x]) (L' := L) (M' := M) (blk4 h11).1 hkA hd3 (by
    rintro k (hk | rfl | ⟨y, hy, rfl⟩)
    · exact .inl (.inl hk)
    · exact .inl (.inr (.inl rfl))
    · cases hy; exact .inr rfl) (by simp) ho (by
    rintro k ⟨y, hy, rfl⟩
    cases hy
    rcases hat with e | e
    · exact h3 g' (own_bk.1 e)
    · refine ⟨fun hA => ?_, fun e' => ?_⟩
      · have := h.guard g' hA
        have := hb.size
        omega
      · have := hb.size
        have e'' : g' = f := e'
        omega)
  exact ⟨(blk4 h13).2.2.2.1, fz4 h13 3, hn.1, (keep_below hb).trans hn.2⟩

theorem enS_snoc {l : List ByteArray} {j : Nat} (h : j < l.length) (s : Fl) : enS (l.take (j + 1)) s = en1 (l.getD j ⟨#[]⟩) (enS (l.take j) s) := by
  rw [take_snoc h, enS_append]
  rfl
theorem enN_snoc {l : List ByteArray} {j : Nat} (h : j < l.length) (s : Fl) : enN (l.take (j + 1)) s = enN (l.take j) s ++ enN1 (l.getD j ⟨#[]⟩) (enS (l.take j) s) := by
  rw [take_snoc h, enN_append]
  simp [enN]

set_option maxHeartbeats 4000000 in
set_option maxRecDepth 100000 in
theorem fenter_w {w0 : World} {A : Nat → Prop} {f : Nat} {e gd : Int} {s : Fl} {l : List ByteArray} (h : FIn w0 A f e gd s.H s.L s.M) (hv : Inv s.L s.M) (al : Option Addr) (nl cl : Nat) (hl : StrsAt w0 al nl cl l) (hA : 0 < nl → ∀ x, al = some x → A x.block) (hn : s.H.length ≤ 3900) (hln : nl ≤ 20) :
    Calls Tryd.prog 54 #[.pointer (some ⟨f, 0, none⟩), .slice al nl cl] w0 fun r w' => ∃ v, r = .returned v ∧ w'.ownsRow w0.heap.size 9 1 v (enN l s).length (sc (enN l s)) ∧ FIn w' (fun k => A k ∨ v.ownBlock = some k) f e gd (enS l s).H (enS l s).L (enS l s).M ∧ Keep A w0 w' := by
  have HS : Hid (EnW w0 A f e gd (enN (l.take 0) s) (enS (l.take 0) s) (.slice none 0 0) w0) := EnW.start h hv
  have HL := Hid.mk' hl
  have hnl := hl.hlen
  have hlc := hl.hle
  have hlm := hl.hcap
  unfold maxLen at hlm
  have HT : Hid (l.take nl = l) := List.take_of_length_le (by omega)
  clear h hv hl
  go_enter Tryd.func54, Tryd.ntmps54
  go_wp2
  go_loopw [11, 5] (fun v11 v5 wr => ∃ j : Nat, v11 = .int .i64 j ∧ j ≤ nl ∧ EnW w0 A f e gd (enN (l.take j) s) (enS (l.take j) s) v5 wr) (fun v11 _ _ => nl + 1 - (intOf v11).toNat)
  case atStart => exact ⟨0, rfl, Nat.zero_le _, HS.out⟩
  case round =>
    clear HS
    obtain ⟨j, rfl, hj, hW⟩ := hrel
    by_cases hjn : j < nl
    · obtain ⟨bj, oj, ej, hbj, hxj⟩ := (HL.out.keepB hW.kp (hA (Nat.lt_of_le_of_lt (Nat.zero_le _) hjn))).at_ j hjn
      subst ej
      have hjn' : (j : Int) < (nl : Int) := by omega
      have hjl : j < l.length := by omega
      have HSN := Hid.mk' (enS_snoc hjl s)
      have HNN := Hid.mk' (enN_snoc hjl s)
      have hHn := enS_len (l.take j) s
      have hOn := enN_len (l.take j) s
      rw [List.length_take] at hHn hOn
      have hHn' : (enS (l.take j) s).H.length ≤ 3920 := by omega
      have hOn' : (enN (l.take j) s).length ≤ 4000 := by omega
      have hbs := hW.kp.size
      generalize l.getD j ⟨#[]⟩ = x at *
      generalize hs2 : enS (l.take (j + 1)) s = s2 at *
      generalize hO2 : enN (l.take (j + 1)) s = O2 at *
      have HEND : Hid (∀ v5 w2, EnW w0 A f e gd O2 s2 v5 w2 → EnW w0 A f e gd (enN (l.take (j + 1)) s) (enS (l.take (j + 1)) s) v5 w2) := fun v5 w2 h => by rw [hs2, hO2]; exact h
      clear hs2 hO2
      generalize enS (l.take j) s = s1 at *
      generalize enN (l.take j) s = O at *
      have hp := fplace_w hW.fin x
      have HW := Hid.mk' hW
      clear hW hHn hOn
      cases hx : isH x s1.H with
      | false =>
        rw [pl_no hx] at hp
        have q1 : s2 = ⟨s1.H ++ [⟨x, 0, false⟩], s1.L, s1.M⟩ := by rw [HSN.out]; unfold en1; rw [if_pos hx]
        have q2 : O2 = O ++ [x] := by rw [HNN.out]; unfold enN1; rw [if_pos hx]
        have HP : Hid (∀ w2, Below wr.heap.size wr w2 → ∃ a c, w2.cell? ⟨f, 3, none⟩ = some (.slice a s1.H.length c) ∧ (w2.alloc (.cells #[.string x, .int .i64 0, .bool false] 97)).ownsRow 0 97 3 (.slice a s1.H.length c) s1.H.length (hcs s1.H) ∧
            ∀ (w3 : World) (g' c' : Nat), w3.ownsRow 0 97 3 (.slice (some ⟨g', 0, none⟩) (s1.H.length + 1) c') (s1.H.length + 1) (hcs (s1.H ++ [⟨x, 0, false⟩])) → (w2.alloc (.cells #[.string x, .int .i64 0, .bool false] 97)).grownBy w3 (Value.slice a s1.H.length c).ownBlock → ((Value.slice a s1.H.length c).ownBlock = some g' ∨ g' = (w2.alloc (.cells #[.string x, .int .i64 0, .bool false] 97)).heap.size) →
              w3.cell? ⟨f, 3, none⟩ = some (.slice a s1.H.length c) ∧ w3.frozen? ⟨f, 3, none⟩ = false ∧ EnW w0 A f e gd O s2 u5 (w3.setCell ⟨f, 3, none⟩ (.slice (some ⟨g', 0, none⟩) (s1.H.length + 1) c'))) := fun w2 hb2 => by
          have hW2 := HW.out.below hb2
          obtain ⟨a, c, c3, ho, hp⟩ := hW2.fin.push
          refine ⟨a, c, c3, ho.alloc _, fun w3 g' c' o3 g3 at3 => ?_⟩
          obtain ⟨r1, r2, r3, r4⟩ := hp _ w3 g' c' ⟨x, 0, false⟩ ((Below.refl _ w2).alloc (Nat.le_refl _) _) o3 g3 at3
          refine ⟨r1, r2, ?_⟩
          rw [q1]
          exact hW2.write (t := ⟨s1.H ++ [⟨x, 0, false⟩], s1.L, s1.M⟩) r3 r4 hW2.inv
        have HQ : Hid (∀ w4 w6 g6 c6, EnW w0 A f e gd O s2 u5 w4 → w6.ownsRow w0.heap.size 9 1 (.slice (some ⟨g6, 0, none⟩) (O.length + 1) c6) (O.length + 1) (sc (O ++ [x])) → (w4.alloc (.cells #[.string x] 9)).grownBy w6 u5.ownBlock → (u5.ownBlock = some g6 ∨ g6 = (w4.alloc (.cells #[.string x] 9)).heap.size) →
            EnW w0 A f e gd O2 s2 (.slice (some ⟨g6, 0, none⟩) (O.length + 1) c6) w6) := fun w4 w6 g6 c6 h4 o6 g6' at6 => by
          rw [q2]
          exact (h4.below ((Below.refl _ w4).alloc (Nat.le_refl _) _)).app rfl o6 g6' at6
        have HO : Hid (∀ w4, EnW w0 A f e gd O s2 u5 w4 → (w4.alloc (.cells #[.string x] 9)).ownsRow w0.heap.size 9 1 u5 O.length (sc O) ∧ w0.heap.size ≤ w4.heap.size) := fun w4 h4 => ⟨h4.o5.alloc _, h4.kp.size⟩
        have hHn5 : s1.H.length ≤ 5000 := by omega
        clear q1 q2 hx HSN HNN
        generalize hn1 : s1.H.length = n1 at *
        generalize hnO : O.length = nO at *
        go_upto_region 7 with (go_at_call 58; refine hp.mono ?_; rintro e w2 ⟨rfl, hb2⟩)
        obtain ⟨a, c, c3, ho, hpu⟩ := HP.out w2 hb2
        have HPU := Hid.mk' hpu
        clear hpu hp hb2
        go_upto_region 12 with (at_builtin; refine wpList_host1 _ rfl _ _ rfl 0 (.slice a n1 c) n1 s1.H ⟨x, 0, false⟩ rfl ho _ 1 rfl (host_at w2 x 0 false) hHn5 (Nat.zero_le _) ?_; intro g3 c4 w3 o3 gr3 at3; obtain ⟨r1, r2, r3⟩ := HPU.out w3 g3 c4 o3 gr3 at3)
        have HR3 := Hid.mk' r3
        obtain ⟨ho5, hs5⟩ := HO.out _ r3
        clear o3 gr3 at3 r1 r2 r3 ho c3
        generalize w3.setCell ⟨f, 3, none⟩ (.slice (some ⟨g3, 0, none⟩) (n1 + 1) c4) = w4 at *
        go_wp2_with (at_builtin; refine wpList_str1 _ rfl _ _ rfl w0.heap.size u5 nO O x rfl ho5 _ 1 rfl (news_one w4 (.string x) 9 0 _ rfl) hOn' (by simp; omega) ?_; intro g6 c6 w6 o6 gr6 at6)
        have HE := Hid.mk' (HEND.out _ _ (HQ.out w4 w6 g6 c6 HR3.out o6 gr6 at6))
        clear o6 gr6 at6
        go_wp2
        exact ⟨⟨j + 1, by simp, by omega, HE.out⟩, by simp [intOf]; omega⟩
      | true =>
        obtain ⟨b, c, c3, hle, hcm, hfl, hb, y1, y2, p0, p1, p2⟩ := HW.out.fin.host hx
        rw [(pl_yes hx).1] at hp
        unfold maxLen at hcm
        cases hlv : (ofN x s1.H).lv with
        | false =>
          have q1 : s2 = s1 := by rw [HSN.out]; unfold en1; rw [if_neg (by rw [hx]; simp), if_neg (by rw [hlv]; simp)]
          have q2 : O2 = O := by rw [HNN.out]; unfold enN1; rw [if_neg (by rw [hx]; simp), if_neg (by rw [hlv]; simp), List.append_nil]
          rw [hlv] at y2
          have HE : Hid (∀ w2, Below wr.heap.size wr w2 → EnW w0 A f e gd O2 s2 u5 w2) := fun w2 hb2 => by rw [q1, q2]; exact HW.out.below hb2
          clear q1 q2 hx hlv HSN HNN
          generalize plN x s1.H = p at *
          generalize s1.H.length = n at *
          go_wp2_with (go_at_call 58; refine hp.mono ?_; rintro e w2 ⟨rfl, hb2⟩; have z3 := (hb2.cell (p := ⟨f, 3, none⟩) hfl).trans c3; have z1 := (hb2.cell (p := ⟨b, p * 3 + 2, none⟩) hb).trans y2)
          exact ⟨⟨j + 1, by simp, by omega, HEND.out _ _ (HE.out w2 hb2)⟩, by simp [intOf]; omega⟩
        | true =>
          rw [hlv] at y2
          have q1 : s2 = ⟨tnH (plN x s1.H) 6 (setV s1.H (plN x s1.H) false), wo x s1.L, wo x s1.M⟩ := by rw [HSN.out]; unfold en1; rw [if_neg (by rw [hx]; simp), if_pos hlv]
          have q2 : O2 = O ++ [x] := by rw [HNN.out]; unfold enN1; rw [if_neg (by rw [hx]; simp), if_pos hlv]
          have HP : Hid (∀ w2, Below wr.heap.size wr w2 → w2.frozen? ⟨b, plN x s1.H * 3 + 2, none⟩ = false ∧ Calls Tryd.prog 57 #[.pointer (some ⟨f, 0, none⟩), .int .i64 (plN x s1.H : Nat), .int .i64 6] (w2.setCell ⟨b, plN x s1.H * 3 + 2, none⟩ (.bool false)) fun r w4 => (∃ b, r = .returned (.bool b)) ∧ ∃ g, w4.cell? ⟨f, 0, none⟩ = some (.pointer (some ⟨g, 0, none⟩)) ∧ Calls Tryd.prog 64 #[.pointer (some ⟨g, 0, none⟩), .string x] w4 fun r w5 => (∃ b, r = .returned (.bool b)) ∧ EnW w0 A f e gd O s2 u5 w5) := fun w2 hb2 => by
            have hW2 := HW.out.below hb2
            have c32 := (hb2.cell (p := ⟨f, 3, none⟩) hfl).trans c3
            have hfz := (hW2.fin.atRow c32 p2).2.2.2.2 (plN x s1.H * 3 + 2)
            have h3 := hW2.fin.setV c32 p2 false
            refine ⟨hfz, (fturn_w h3.1 (plN x s1.H) (by rw [setV_length]; exact p2) 6).mono fun r w4 ⟨r1, r2, r3⟩ => ⟨⟨_, r1⟩, ?_⟩⟩
            obtain ⟨g, g0, hend⟩ := FIn.ends (s := ⟨tnH (plN x s1.H) 6 (setV s1.H (plN x s1.H) false), s1.L, s1.M⟩) r2 hW2.inv x
            refine ⟨g, g0, hend.mono fun r w5 ⟨t1, t2, t3⟩ => ⟨⟨_, t1⟩, ?_⟩⟩
            rw [q1]
            exact hW2.write (t := ⟨tnH (plN x s1.H) 6 (setV s1.H (plN x s1.H) false), wo x s1.L, wo x s1.M⟩) t2 ((h3.2.trans r3).trans t3) (hW2.inv.ended x)
          have HQ : Hid (∀ w4 w6 g6 c6, EnW w0 A f e gd O s2 u5 w4 → w6.ownsRow w0.heap.size 9 1 (.slice (some ⟨g6, 0, none⟩) (O.length + 1) c6) (O.length + 1) (sc (O ++ [x])) → (w4.alloc (.cells #[.string x] 9)).grownBy w6 u5.ownBlock → (u5.ownBlock = some g6 ∨ g6 = (w4.alloc (.cells #[.string x] 9)).heap.size) →
              EnW w0 A f e gd O2 s2 (.slice (some ⟨g6, 0, none⟩) (O.length + 1) c6) w6) := fun w4 w6 g6 c6 h4 o6 g6' at6 => by
            rw [q2]
            exact (h4.below ((Below.refl _ w4).alloc (Nat.le_refl _) _)).app rfl o6 g6' at6
          have HO : Hid (∀ w4, EnW w0 A f e gd O s2 u5 w4 → (w4.alloc (.cells #[.string x] 9)).ownsRow w0.heap.size 9 1 u5 O.length (sc O) ∧ w0.heap.size ≤ w4.heap.size) := fun w4 h4 => ⟨h4.o5.alloc _, h4.kp.size⟩
          clear q1 q2 hx hlv HSN HNN
          generalize plN x s1.H = p at *
          generalize s1.H.length = n at *
          generalize hnO : O.length = nO at *
          go_upto_region 12 with (first
            | (go_at_call 58; refine hp.mono ?_; rintro e w2 ⟨rfl, hb2⟩; have z3 := (hb2.cell (p := ⟨f, 3, none⟩) hfl).trans c3; have z1 := (hb2.cell (p := ⟨b, p * 3 + 2, none⟩) hb).trans y2; obtain ⟨zf, ht⟩ := HP.out w2 hb2)
            | (go_at_call 57; refine ht.mono ?_; rintro e w4 ⟨⟨b1, rfl⟩, g, g0, hend⟩)
            | (go_at_call 64; refine hend.mono ?_; rintro e w5 ⟨⟨b2, rfl⟩, hW5⟩))
          obtain ⟨ho5, hs5⟩ := HO.out _ hW5
          have HR3 := Hid.mk' hW5
          clear hW5 hend ht hp
          go_wp2_with (at_builtin; refine wpList_str1 _ rfl _ _ rfl w0.heap.size u5 nO O x rfl ho5 _ 1 rfl (news_one w5 (.string x) 9 0 _ rfl) hOn' (by simp; omega) ?_; intro g6 c6 w6 o6 gr6 at6)
          have HE := Hid.mk' (HEND.out _ _ (HQ.out w5 w6 g6 c6 HR3.out o6 gr6 at6))
          clear o6 gr6 at6
          go_wp2
          exact ⟨⟨j + 1, by simp, by omega, HE.out⟩, by simp [intOf]; omega⟩
    · obtain rfl : nl = j := by omega
      have HE : Hid (EnW w0 A f e gd (enN l s) (enS l s) u5 wr) := by
        have := HT.out
        rw [this] at hW
        exact hW
      clear hW
      go_wp2
      go_ret
      exact ⟨_, rfl, HE.out.o5, HE.out.fin, HE.out.kp⟩

end Go.Proofs.YtmlkpfkeeifgeaaDoor
