/-
  Words for the walk of leave: the row of names that leave, the row of hosts that stay, and the fleet between; how they last, and how one more is put behind each. Conditions: they lie where they are said to lie.
-/
import Derived.Test.YtmlkpfkeeifgeaaDoorFAdm
namespace Go.Proofs.YtmlkpfkeeifgeaaDoor
open Go.ChangeShapes Go.WideShapes Go.ChangeAt Go.RowKit

/-- One host is put behind a row of hosts. -/
theorem wpList_host1 (w : World) {ops : Array Oper} {rest : List Oper} {o : Oper} {a : Act} {Q : Exit → Act → World → Prop} (hgd : o.guard = none) (s x : Operand)
    (ho : o.op = .call { callee := .builtin .append, args := #[s, x], argTypes := #[71, 71] }) (base : Nat) (v : Value) (n : Nat) (l : List Hs) (t : Hs) (hs : a.eval s = v) (hown : w.ownsRow base 97 3 v n (hcs l)) (ad : Addr) (c : Nat)
    (hx : a.eval x = .slice (some ad) 1 c) (hc : ∀ j u, (hcs [t])[j]? = some u → w.cell? (ad.add j) = some u) (hn : n ≤ 5000) (hbase : base ≤ w.heap.size)
    (h : ∀ g cap w', w'.ownsRow base 97 3 (.slice (some ⟨g, 0, none⟩) (n + 1) cap) (n + 1) (hcs (l ++ [t])) → w.grownBy w' v.ownBlock → (v.ownBlock = some g ∨ g = w.heap.size) → wpList Tryd.prog ops Q rest (a.put o.dst (.slice (some ⟨g, 0, none⟩) (n + 1) cap)) w') : wpList Tryd.prog ops Q (o :: rest) a w := by
  obtain ⟨i, hi, hz0, hz1, hz2⟩ := info_parts info97
  refine wpList_append_lies w hgd s x 71 ho base 97 i _ 3 32 Tryd.underlying71 hi hz0 hz1 hz2 rfl (by decide) v n _ hs hown ad 1 c (hcs [t]) hx rfl hc (hcs_one _) (by decide) (by unfold maxLen; omega) (by omega) hbase _ rfl ?_
  intro g cap w' h1 h2 h3 _
  exact h g cap w' (by rw [hcs_append]; exact h1) h2 h3
theorem host_at (w : World) (x : ByteArray) (s : Int) (b : Bool) : ∀ j u, (hcs [⟨x, s, b⟩])[j]? = some u → (w.alloc (.cells #[.string x, .int .i64 s, .bool b] 97)).cell? ((⟨w.heap.size, 0, none⟩ : Addr).add j) = some u :=
  World.news_of_block (cs := #[.string x, .int .i64 s, .bool b]) (t := 97) (fr := (0, 0)) (heap_alloc_new w _)

theorem own_mono {w : World} {base base' n size : Nat} {e : TypeId} {v : Value} {xs : List Value} (h : w.ownsRow base e size v n xs) (hb : base' ≤ base) : w.ownsRow base' e size v n xs := by
  refine ⟨h.1, ?_⟩
  rcases h.2 with hn | ⟨g, cap, cur, e1, h1, rest⟩
  · exact .inl hn
  · exact .inr ⟨g, cap, cur, e1, Nat.le_trans hb h1, rest⟩
/-- Two rows of other types don't lie in one block. -/
theorem own_apart {w : World} {b1 b2 e1 e2 s1 s2 n1 n2 : Nat} {v1 v2 : Value} {x1 x2 : List Value} (h1 : w.ownsRow b1 e1 s1 v1 n1 x1) (h2 : w.ownsRow b2 e2 s2 v2 n2 x2) (hne : e1 ≠ e2) (k : Nat) (k1 : v1.ownBlock = some k) (k2 : v2.ownBlock = some k) : False := by
  rcases h1.2 with ⟨rfl, _⟩ | ⟨g, cap, cur, rfl, _, hg, _⟩
  · cases k1
  · rcases h2.2 with ⟨rfl, _⟩ | ⟨g', cap', cur', rfl, _, hg', _⟩
    · cases k2
    · have e1 : g = k := by simpa [Value.ownBlock] using k1
      have e2 : g' = k := by simpa [Value.ownBlock] using k2
      subst e1
      subst e2
      rw [hg] at hg'
      injection hg' with hg'
      injection hg' with q1 q2
      exact hne q2

/-- The names that leave (v7), the hosts that stay (v8), the fleet between. -/
structure LvW (w0 : World) (A : Nat → Prop) (f : Nat) (e gd : Int) (O : List ByteArray) (S G : List Hs) (L M : List Dr) (v7 v8 : Value) (w : World) : Prop where
  o7 : w.ownsRow w0.heap.size 9 1 v7 O.length (sc O)
  o8 : w.ownsRow w0.heap.size 97 3 v8 S.length (hcs S)
  fin : FIn w (fun k => A k ∨ v7.ownBlock = some k ∨ v8.ownBlock = some k) f e gd G L M
  inv : Inv L M
  kp : Keep A w0 w
  g0 : ∀ k, A k → k < w0.heap.size
  a0 : A 0
  pos : 0 < w0.heap.size

section
variable {w0 w w' : World} {A : Nat → Prop} {f : Nat} {e gd : Int} {O : List ByteArray} {S G : List Hs} {L M : List Dr} {v7 v8 : Value}
theorem LvW.start (h : FIn w0 A f e gd G L M) (hv : Inv L M) : LvW w0 A f e gd [] [] G L M (.slice none 0 0) (.slice none 0 0) w0 :=
  ⟨World.ownsRow_nil _ _ _ _, World.ownsRow_nil _ _ _ _, h.fewer (fun k hk => by rcases hk with hk | hk | hk; exact hk; cases hk; cases hk) (.inl h.a0), hv, Keep.refl _ _, h.guard, h.a0, h.tabs.pos⟩
theorem LvW.below (h : LvW w0 A f e gd O S G L M v7 v8 w) (hb : Below w.heap.size w w') : LvW w0 A f e gd O S G L M v7 v8 w' :=
  ⟨owns_keep h.o7 (keep_below (A := fun _ => True) hb) (fun _ _ => trivial), owns_keep h.o8 (keep_below (A := fun _ => True) hb) (fun _ _ => trivial), h.fin.below hb, h.inv, h.kp.trans (keep_below hb), h.g0, h.a0, h.pos⟩
theorem LvW.drew (h : LvW w0 A f e gd O S G L M v7 v8 w) : LvW w0 A f e gd O S G L M v7 v8 w.drew := h.below (below_drewN (Below.refl _ w) 1)
theorem LvW.write (h : LvW w0 A f e gd O S G L M v7 v8 w) {G' : List Hs} {L' M' : List Dr} (hf : FIn w' (fun k => A k ∨ v7.ownBlock = some k ∨ v8.ownBlock = some k) f e gd G' L' M') (hk : Keep (fun k => A k ∨ v7.ownBlock = some k ∨ v8.ownBlock = some k) w w') (hv : Inv L' M') :
    LvW w0 A f e gd O S G' L' M' v7 v8 w' :=
  ⟨owns_keep h.o7 hk (fun _ hk => .inr (.inl hk)), owns_keep h.o8 hk (fun _ hk => .inr (.inr hk)), hf, hv, h.kp.trans (hk.mono fun _ _ hA => .inl hA), h.g0, h.a0, h.pos⟩
theorem LvW.app7 (h : LvW w0 A f e gd O S G L M v7 v8 w) {x : ByteArray} {g c n : Nat} (hn : O.length = n) (ho : w'.ownsRow w0.heap.size 9 1 (.slice (some ⟨g, 0, none⟩) (n + 1) c) (n + 1) (sc (O ++ [x]))) (hg : w.grownBy w' v7.ownBlock) (hat : v7.ownBlock = some g ∨ g = w.heap.size) :
    LvW w0 A f e gd (O ++ [x]) S G L M (.slice (some ⟨g, 0, none⟩) (n + 1) c) v8 w' := by
  subst hn
  have hk : Keep (fun k => v7.ownBlock ≠ some k) w w' := ⟨hg.os, hg.tape, hg.output, hg.size, fun k hk hA => hg.block k hk (fun e => hA e.symm)⟩
  have hge : ∀ k, v7.ownBlock = some k → w0.heap.size ≤ k := fun k hk => (h.o7.lt k hk).1
  have hl1 : (O ++ [x]).length = O.length + 1 := by simp
  refine ⟨by rw [hl1]; exact ho, owns_keep h.o8 hk (fun k h8 h7 => own_apart h.o7 h.o8 (by decide) k h7 h8), ?_, h.inv, h.kp.trans (hk.mono fun k _ hA e => by have := hge k e; have := h.g0 k hA; omega), h.g0, h.a0, h.pos⟩
  refine h.fin.keep (hk.mono ?_) ?_ ?_ (.inl h.a0)
  · rintro k _ (hn | rfl) e
    · exact hn (.inr (.inl e))
    · have := hge 0 e; have := h.pos; omega
  · rintro k (hk | hk | hk)
    · exact .inl (.inl hk)
    · have e : g = k := by simpa [Value.ownBlock] using hk
      subst e
      exact hat.imp (fun h => .inr (.inl h)) (fun h => Nat.le_of_eq h.symm)
    · exact .inl (.inr (.inr hk))
  · rintro k (hk | hk | hk)
    · exact Nat.lt_of_lt_of_le (h.fin.guard k (.inl hk)) hg.size
    · exact (ho.lt k hk).2
    · exact Nat.lt_of_lt_of_le (h.fin.guard k (.inr (.inr hk))) hg.size
theorem LvW.app8 (h : LvW w0 A f e gd O S G L M v7 v8 w) {x : Hs} {g c n : Nat} (hn : S.length = n) (ho : w'.ownsRow w0.heap.size 97 3 (.slice (some ⟨g, 0, none⟩) (n + 1) c) (n + 1) (hcs (S ++ [x]))) (hg : w.grownBy w' v8.ownBlock) (hat : v8.ownBlock = some g ∨ g = w.heap.size) :
    LvW w0 A f e gd O (S ++ [x]) G L M v7 (.slice (some ⟨g, 0, none⟩) (n + 1) c) w' := by
  subst hn
  have hk : Keep (fun k => v8.ownBlock ≠ some k) w w' := ⟨hg.os, hg.tape, hg.output, hg.size, fun k hk hA => hg.block k hk (fun e => hA e.symm)⟩
  have hge : ∀ k, v8.ownBlock = some k → w0.heap.size ≤ k := fun k hk => (h.o8.lt k hk).1
  have hl1 : (S ++ [x]).length = S.length + 1 := by simp
  refine ⟨owns_keep h.o7 hk (fun k h7 h8 => own_apart h.o7 h.o8 (by decide) k h7 h8), by rw [hl1]; exact ho, ?_, h.inv, h.kp.trans (hk.mono fun k _ hA e => by have := hge k e; have := h.g0 k hA; omega), h.g0, h.a0, h.pos⟩
  refine h.fin.keep (hk.mono ?_) ?_ ?_ (.inl h.a0)
  · rintro k _ (hn | rfl) e
    · exact hn (.inr (.inr e))
    · have := hge 0 e; have := h.pos; omega
  · rintro k (hk | hk | hk)
    · exact .inl (.inl hk)
    · exact .inl (.inr (.inl hk))
    · have e : g = k := by simpa [Value.ownBlock] using hk
      subst e
      exact hat.imp (fun h => .inr (.inr h)) (fun h => Nat.le_of_eq h.symm)
  · rintro k (hk | hk | hk)
    · exact Nat.lt_of_lt_of_le (h.fin.guard k (.inl hk)) hg.size
    · exact Nat.lt_of_lt_of_le (h.fin.guard k (.inr (.inl hk))) hg.size
    · exact (ho.lt k hk).2
/-- The hosts that stay are the fleet's. -/
theorem LvW.done (h : LvW w0 A f e gd O S G L M v7 v8 w) {a8 : Option Addr} {c8 n : Nat} (e8 : v8 = .slice a8 n c8) (hn : S.length = n) : w.frozen? ⟨f, 3, none⟩ = false ∧ (∃ y, w.cell? ⟨f, 3, none⟩ = some y) ∧
    FIn (w.setCell ⟨f, 3, none⟩ v8) (fun k => A k ∨ v7.ownBlock = some k) f e gd S L M ∧ Keep A w0 (w.setCell ⟨f, 3, none⟩ v8) ∧ (w.setCell ⟨f, 3, none⟩ v8).ownsRow w0.heap.size 9 1 v7 O.length (sc O) := by
  subst e8
  obtain ⟨g, a, c, h1, h2, h3, h4⟩ := h.fin.ex
  obtain ⟨c0, -, -, c3, -⟩ := blk4 h1
  have hff : ∀ k, bk a8 k → ¬ (A k ∨ v7.ownBlock = some k) ∧ k ≠ f := fun k hk => by
    have hk8 : (Value.slice a8 n c8).ownBlock = some k := own_bk.2 hk
    have hge := (h.o8.lt k hk8).1
    refine ⟨?_, fun e => h.fin.gout (.inr (.inr (e ▸ hk8)))⟩
    rintro (hA | h7)
    · have := h.g0 k hA; omega
    · exact own_apart h.o7 h.o8 (by decide) k h7 hk8
  have h' := h.fin.fewer (B := fun k => A k ∨ v7.ownBlock = some k) (fun k hk => hk.imp id .inl) (.inl h.a0)
  have hnr := h'.newRow (w3 := w) (B := fun k => (A k ∨ v7.ownBlock = some k ∨ (Value.slice a8 n c8).ownBlock = some k) ∨ k = f ∨ bk a k) (a := a8) (c := c8) (n := n) (H' := S) (L' := L) (M' := M) c0 (Keep.refl _ _) h4 ?_ hn (own_mono (hn ▸ h.o8) (Nat.zero_le _)) hff
  · exact ⟨fz4 h1 3, ⟨_, c3⟩, hnr.1, h.kp.trans (hnr.2.mono fun k _ hA => .inl hA), owns_keep h.o7 hnr.2 (fun k hk => .inr hk)⟩
  · rintro k ((hk | hk) | rfl | hk)
    · exact .inl (.inl hk)
    · exact .inl (.inr (.inl hk))
    · exact .inr (.inl rfl)
    · exact .inl (.inr (.inr (own_bk.2 hk)))

/-- What lies at a place of the fleet's row, the row being known. -/
theorem FIn.atRow (h : FIn w A f e gd G L M) {b n c i : Nat} (hc : w.cell? ⟨f, 3, none⟩ = some (.slice (some ⟨b, 0, none⟩) n c)) (hi : i < G.length) :
    b < w.heap.size ∧ w.cell? ⟨b, i * 3, none⟩ = some (.string (atH G i).nm) ∧ w.cell? ⟨b, i * 3 + 1, none⟩ = some (.int .i64 (atH G i).st) ∧ w.cell? ⟨b, i * 3 + 2, none⟩ = some (.bool (atH G i).lv) ∧ ∀ o, w.frozen? ⟨b, o, none⟩ = false := by
  obtain ⟨g, a, c', -, -, -, c3, -, -, -, -, -, hrow⟩ := h.cells
  rw [hc] at c3
  injection c3 with c3
  injection c3 with q1 q2 q3
  subst q1
  obtain ⟨b', e', r⟩ := hrow i hi
  cases e'
  exact r
theorem cell_pin {w w' : World} {f o : Nat} {v : Value} (h : w'.heap[f]? = w.heap[f]?) (hc : w.cell? ⟨f, o, none⟩ = some v) : w'.cell? ⟨f, o, none⟩ = some v := (World.cell?_of_block (a := ⟨f, o, none⟩) h).trans hc
/-- A turn leaves the fleet's own block as it was. -/
theorem fturn_pin (h : FIn w A f e gd G L M) (i : Nat) (hi : i < G.length) (ev s' : Int) (b : Bool) (hs : St.nx (atH G i).st ev = s') (hd : St.did (atH G i).st ev = b) :
    Calls Tryd.prog 57 #[.pointer (some ⟨f, 0, none⟩), .int .i64 i, .int .i64 ev] w fun r w' => r = .returned (.bool b) ∧ FIn w' A f e gd (setS G i s') L M ∧ Keep A w w' ∧ w'.heap[f]? = w.heap[f]? := by
  obtain ⟨g, a, c, -, -, -, c3, -, hle, hcm, -, -, hrow⟩ := h.cells
  obtain ⟨bb, rfl, hb, -, y1, -, hfz⟩ := hrow i hi
  have hf := hfz (i * 3 + 1)
  have hnx := St.next_n (atH G i).st ev w h.tabs s' b hs hd
  have hbf : bb ≠ f := by
    obtain ⟨g', a', c', h1, h2, h3, h4⟩ := h.ex
    obtain ⟨-, -, -, c3', -⟩ := blk4 h1
    rw [c3] at c3'
    injection c3' with c3'
    injection c3' with q1 q2 q3
    subst q1
    exact (h3 bb ⟨_, rfl, rfl⟩).2
  have HE := Hid.mk' (And.intro (h.setS c3 hi s') (heap_setCell_other w ⟨bb, i * 3 + 1, none⟩ f (.int .i64 s') (fun e => hbf e.symm)))
  have hi0 : ((i : Int) == -1) = false := beq_eq_false_iff_ne.2 (by omega)
  have hin : (i : Int) < (G.length : Int) := by omega
  unfold maxLen at hcm
  generalize (atH G i).st = s at *
  generalize G.length = n at *
  clear h hrow hs hd hfz
  go_enter Tryd.func57, Tryd.ntmps57
  go_wp2_with (go_at_call 85; refine hnx.mono ?_; rintro e w' ⟨rfl, hw'⟩; subst w')
  go_ret
  exact ⟨rfl, HE.out.1.1, HE.out.1.2, HE.out.2⟩
theorem FIn.beginP (h : FIn w A f e gd G L M) (hv : Inv L M) {g : Nat} (hg : w.cell? ⟨f, 0, none⟩ = some (.pointer (some ⟨g, 0, none⟩))) (x : ByteArray) (d : Int) (hs : x.size ≤ maxLen) (hm : M.length ≤ 4000) : Calls Tryd.prog 59 #[.pointer (some ⟨g, 0, none⟩), .string x, .int .i64 d] w fun r w' => r = .returned (.int .i64 (begE x M)) ∧ FIn w' A f e gd G (begL x L M) (begM x d M) ∧ Keep A w w' ∧ w'.heap[f]? = w.heap[f]? := by
  have hfl := h.lt
  obtain ⟨g', g0, B, hd, -, hBf, hp⟩ := h.drains
  rw [hg] at g0
  injection g0 with g0
  injection g0 with g0
  injection g0 with g0
  injection g0 with g0
  subst g0
  exact (beg_w w B g L M x d hd hv hs hm).mono fun r w'' ⟨q1, q2, q3⟩ => ⟨q1, (hp w'' _ _ q2 q3).1, (hp w'' _ _ q2 q3).2, q3.block f hfl hBf⟩
theorem LvW.f_out (h : LvW w0 A f e gd O S G L M v7 v8 w) : v7.ownBlock ≠ some f ∧ v8.ownBlock ≠ some f := ⟨fun e => h.fin.gout (.inr (.inl e)), fun e => h.fin.gout (.inr (.inr e))⟩
theorem grown_pin {w w' : World} {v : Value} {f : Nat} (hg : w.grownBy w' v.ownBlock) (hf : v.ownBlock ≠ some f) (hl : f < w.heap.size) : w'.heap[f]? = w.heap[f]? := hg.block f hl (fun e => hf e.symm)

theorem FIn.row_ne (h : FIn w A f e gd G L M) {b n c : Nat} (hc : w.cell? ⟨f, 3, none⟩ = some (.slice (some ⟨b, 0, none⟩) n c)) : b ≠ f := by
  obtain ⟨g', a', c', h1, h2, h3, h4⟩ := h.ex
  obtain ⟨-, -, -, c3', -⟩ := blk4 h1
  rw [hc] at c3'
  injection c3' with c3'
  injection c3' with q1 q2 q3
  subst q1
  exact (h3 b ⟨_, rfl, rfl⟩).2
theorem LvW.mark (h : LvW w0 A f e gd O S G L M v7 v8 w) {b n c i : Nat} (hc : w.cell? ⟨f, 3, none⟩ = some (.slice (some ⟨b, 0, none⟩) n c)) (hi : i < G.length) :
    LvW w0 A f e gd O S (setV G i true) L M v7 v8 (w.setCell ⟨b, i * 3 + 2, none⟩ (.bool true)) ∧ (w.setCell ⟨b, i * 3 + 2, none⟩ (.bool true)).heap[f]? = w.heap[f]? := by
  have hs := h.fin.setV hc hi true
  have hne := h.fin.row_ne hc
  exact ⟨h.write hs.1 hs.2 h.inv, heap_setCell_other w ⟨b, i * 3 + 2, none⟩ f (.bool true) (fun e => hne e.symm)⟩
theorem LvW.turn (h : LvW w0 A f e gd O S G L M v7 v8 w) (i : Nat) (hi : i < G.length) (ev s' : Int) (b : Bool) (hs : St.nx (atH G i).st ev = s') (hd : St.did (atH G i).st ev = b) :
    Calls Tryd.prog 57 #[.pointer (some ⟨f, 0, none⟩), .int .i64 i, .int .i64 ev] w fun r w' => r = .returned (.bool b) ∧ LvW w0 A f e gd O S (setS G i s') L M v7 v8 w' ∧ w'.heap[f]? = w.heap[f]? :=
  (fturn_pin h.fin i hi ev s' b hs hd).mono fun _ _ ⟨q1, q2, q3, q4⟩ => ⟨q1, h.write q2 q3 h.inv, q4⟩
theorem LvW.beg (h : LvW w0 A f e gd O S G L M v7 v8 w) {g : Nat} (hg : w.cell? ⟨f, 0, none⟩ = some (.pointer (some ⟨g, 0, none⟩))) (x : ByteArray) (d : Int) (hs : x.size ≤ maxLen) (hm : M.length ≤ 4000) :
    Calls Tryd.prog 59 #[.pointer (some ⟨g, 0, none⟩), .string x, .int .i64 d] w fun r w' => r = .returned (.int .i64 (begE x M)) ∧ LvW w0 A f e gd O S G (begL x L M) (begM x d M) v7 v8 w' ∧ w'.heap[f]? = w.heap[f]? :=
  (h.fin.beginP h.inv hg x d hs hm).mono fun _ _ ⟨q1, q2, q3, q4⟩ => ⟨q1, h.write q2 q3 (h.inv.begun x d), q4⟩
end

end Go.Proofs.YtmlkpfkeeifgeaaDoor
