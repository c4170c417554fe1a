/-
  Several texts in one: RgC, RgD, RgE.
-/
import Derived.Test.YtmlkpfkeeifgeaaDoorM9
import Derived.Test.YtmlkpfkeeifgeaaDoorM4
import Derived.Test.YtmlkpfkeeifgeaaDoorM3
import Derived.Test.YtmlkpfkeeifgeaaDoorM1
import Derived.Deep.RegionHeld3
namespace Go.Proofs.YtmlkpfkeeifgeaaDoor
open Go.ChangeShapes Go.WideShapes Go.ChangeAt Go.RowKit Go.Joins Go.Deep

theorem and8 {p0 p1 p2 p3 p4 p5 p6 p7 : Prop} {w w3 : World} (h : p0 ∧ p1 ∧ p2 ∧ p3 ∧ p4 ∧ p5 ∧ p6 ∧ p7 ∧ Below w3.heap.size w3 w) : Below w3.heap.size w3 w := h.2.2.2.2.2.2.2.2
theorem and11 {p0 p1 p2 p3 p4 p5 p6 p7 p8 p9 p10 : Prop} {w w3 : World} (h : p0 ∧ p1 ∧ p2 ∧ p3 ∧ p4 ∧ p5 ∧ p6 ∧ p7 ∧ p8 ∧ p9 ∧ p10 ∧ Below w3.heap.size w3 w) : Below w3.heap.size w3 w := h.2.2.2.2.2.2.2.2.2.2.2
set_option maxHeartbeats 8000000 in
set_option maxRecDepth 1000000 in
theorem reg1 (w1 : World) {AF A : Nat → Prop} {f bx : Nat} {e gd now : Int} {a b c x y z : Sl} {s : Fl} {q : ByteArray} (hF : FA w1 AF f e gd s) (hR : RL6 w1 A a b c x y z s) (hbx : bx < w1.heap.size) (hq1 : w1.heap[bx]? = some (.cells #[.int .i64 e, .int .i64 gd, .slice a.a a.n a.c, .slice b.a b.n b.c, .slice c.a c.n c.c, .slice x.a x.n x.c, .slice y.a y.n y.c, .slice z.a z.n z.c] 33 (0, 0))) (he : e ≤ 1000) (hlen : s.H.length ≤ 4000) (hm : s.M.length ≤ 3500)
    {Q : Exit → Act → World → Prop} {s1 s4 s6 s7 s8 s9 s10 s11 s12 s13 s14 s15 s16 s17 s18 s19 s20 s21 s22 s23 s24 s25 s26 s27 s28 s29 s30 s31 s32 s33 s34 s35 s36 s37 s38 s39 s40 s41 s42 s43 s44 s45 s46 s47 s48 s49 s50 s51 s52 s53 s54 s55 s56 s57 s58 s59 s60 s61 s62 s63 s64 s65 s66 s67 s68 s69 s70 s71 s72 s73 s74 s75 s76 s77 s78 s79 s80 s81 s82 s83 s84 s85 s86 s87 s88 s89 s90 s91 s92 s93 s94 s95 s96 s97 s98 s99 s100 s101 s102 s103 s104 s105 s106 s107 s108 s109 s110 s111 s112 s113 s114 s115 s116 s117 s118 s119 s120 : Value}
    (hK : ∀ (u14 u15 u16 u17 u18 u19 u20 u21 u22 u23 u24 u25 u26 u27 u28 u29 u30 u31 u32 u33 u34 u35 u36 u37 u38 u39 u40 u41 u42 u43 u44 u45 u46 u47 u48 u49 u50 u51 u52 u53 u54 u55 : Value) (wx : World), Below w1.heap.size w1 wx → Q .normal ⟨#[.pointer (some ⟨f, 0, none⟩), s1, .string q, .int .i64 now, s4, .pointer (some ⟨bx, 0, none⟩), s6, s7, s8, s9, s10, s11, s12, s13, u14, u15, u16, u17, u18, u19, u20, u21, u22, u23, u24, u25, u26, u27, u28, u29, u30, u31, u32, u33, u34, u35, u36, u37, u38, u39, u40, u41, u42, u43, u44, u45, u46, u47, u48, u49, u50, u51, u52, u53, u54, u55, .bool false, s57, s58, s59, s60, s61, s62, s63, s64, s65, s66, s67, s68, s69, s70, s71, s72, s73, s74, s75, s76, s77, s78, s79, s80, s81, s82, s83, s84, s85, s86, s87, s88, s89, s90, s91, s92, s93, s94, s95, s96, s97, s98, s99, s100, s101, s102, s103, s104, s105, s106, s107, s108, s109, s110, s111, s112, s113, s114, s115, s116, s117, s118, s119, s120], []⟩ wx) :
    Code.wp Tryd.prog ((Tryd.f17.body.bind (regOf 1)).getD .skip) Q ⟨#[.pointer (some ⟨f, 0, none⟩), s1, .string q, .int .i64 now, s4, .pointer (some ⟨bx, 0, none⟩), s6, s7, s8, s9, s10, s11, s12, s13, s14, s15, s16, s17, s18, s19, s20, s21, s22, s23, s24, s25, s26, s27, s28, s29, s30, s31, s32, s33, s34, s35, s36, s37, s38, s39, s40, s41, s42, s43, s44, s45, s46, s47, s48, s49, s50, s51, s52, s53, s54, s55, s56, s57, s58, s59, s60, s61, s62, s63, s64, s65, s66, s67, s68, s69, s70, s71, s72, s73, s74, s75, s76, s77, s78, s79, s80, s81, s82, s83, s84, s85, s86, s87, s88, s89, s90, s91, s92, s93, s94, s95, s96, s97, s98, s99, s100, s101, s102, s103, s104, s105, s106, s107, s108, s109, s110, s111, s112, s113, s114, s115, s116, s117, s118, s119, s120], []⟩ w1 := by
  refine wp_mono (Q := Exit.then (fun a w => Q .normal a w) (fun _ _ _ => False)) ?_ (fun e a w h => by cases e with | normal => exact h | _ => exact False.elim h)
  conv => arg 2; whnf
  have HKK := Hid.mk' hK
  have hbn : s.H.length = b.n := by have := hR.st.hlen; rw [hz_length] at this; exact this
  have hb4 : b.n ≤ 4000 := by omega
  have HC : Hid (∀ w', Below w1.heap.size w1 w' → (fun w' => w'.cell? ⟨bx, 0, none⟩ = some (.int .i64 e) ∧ w'.cell? ⟨bx, 1, none⟩ = some (.int .i64 gd) ∧ w'.cell? ⟨bx, 2, none⟩ = some (.slice a.a a.n a.c) ∧ w'.cell? ⟨bx, 3, none⟩ = some (.slice b.a b.n b.c) ∧ w'.cell? ⟨bx, 4, none⟩ = some (.slice c.a c.n c.c) ∧ w'.cell? ⟨bx, 5, none⟩ = some (.slice x.a x.n x.c) ∧ w'.cell? ⟨bx, 6, none⟩ = some (.slice y.a y.n y.c) ∧ w'.cell? ⟨bx, 7, none⟩ = some (.slice z.a z.n z.c) ∧ Below w1.heap.size w1 w') w') := fun w' hb => by
    obtain ⟨y0, y1, y2, y3, y4, y5, y6, y7⟩ := blk8 ((hb.block bx hbx).trans hq1)
    exact ⟨y0, y1, y2, y3, y4, y5, y6, y7, hb⟩
  have HNM : Hid (∀ w', Below w1.heap.size w1 w' → Calls Tryd.prog 34 #[.pointer (some ⟨f, 0, none⟩)] w' fun o w'' => o = .returned (.slice (some ⟨w'.heap.size, 0, none⟩) b.n b.n) ∧ StrsAt w'' (some ⟨w'.heap.size, 0, none⟩) b.n b.n (hn s.H) ∧ Below w'.heap.size w' w'') := fun w' hb => by
    have h := fnames_w (hF.below hb) hlen
    rw [hbn] at h
    exact h
  have HST : Hid (∀ w', Below w1.heap.size w1 w' → Calls Tryd.prog 35 #[.pointer (some ⟨f, 0, none⟩)] w' fun o w'' => o = .returned (.slice (some ⟨w'.heap.size, 0, none⟩) b.n b.n) ∧ IntsAt w'' (some ⟨w'.heap.size, 0, none⟩) b.n b.n (hz s.H) ∧ Below w'.heap.size w' w'') := fun w' hb => by
    have h := fstates_w (hF.below hb) hlen
    rw [hbn] at h
    exact h
  have HSM : Hid (∀ w', Below w1.heap.size w1 w' → ∀ p n c', StrsAt w' p n c' (hn s.H) → Calls Tryd.prog 25 #[.slice p n c', .slice a.a a.n a.c] w' fun o w'' => o = .returned (.bool true) ∧ Below w'.heap.size w' w'') := fun w' hb => fun p n c' hs => by
    have h := same_any p a.a n a.n c' a.c (hn s.H) (hn s.H) w' hs (hR.nm.below (Nat.le_refl _) hb)
    rw [decide_eq_true rfl] at h
    exact h
  have HSI : Hid (∀ w', Below w1.heap.size w1 w' → ∀ p c', IntsAt w' p b.n c' (hz s.H) → Calls Tryd.prog 36 #[.slice p b.n c', .slice b.a b.n b.c] w' fun o w'' => o = .returned (.bool true) ∧ Below w'.heap.size w' w'') := fun w' hb => fun p c' hs => same_ints p b.a b.n c' b.c (hz s.H) w' hs (hR.st.below (Nat.le_refl _) hb)
  have HCP : Hid (∀ w', Below w1.heap.size w1 w' → Calls Tryd.prog 18 #[.pointer (some ⟨f, 0, none⟩)] w' fun o w'' => o = .returned (.int .i64 (capF s.H e)) ∧ Below w'.heap.size w' w'') := fun w' hb => fcap_w (hF.below hb) hlen
  have HCR : Hid (∀ w', Below w1.heap.size w1 w' → Calls Tryd.prog 47 #[.agg #[.int .i64 e, .int .i64 gd, .slice a.a a.n a.c, .slice b.a b.n b.c, .slice c.a c.n c.c, .slice x.a x.n x.c, .slice y.a y.n y.c, .slice z.a z.n z.c]] w' fun o w'' => o = .returned (.int .i64 (capF s.H e)) ∧ Below w'.heap.size w' w'') := fun w' hb => rcap_f (hR.below hb (fun _ hk => hk)) he hlen
  have HDU : Hid (∀ w', Below w1.heap.size w1 w' → Calls Tryd.prog 29 #[.pointer (some ⟨f, 0, none⟩), .int .i64 now] w' fun o w'' => ∃ p : Sl, o = .returned (.slice p.a p.n p.c) ∧ StrsAt w'' p.a p.n p.c (dueL now s.M) ∧ Below w'.heap.size w' w'') := fun w' hb => (fdue_w (hF.below hb) now (by omega)).mono fun o w'' ⟨v, h1, h2, h3⟩ => by
    obtain ⟨a0, c0, rfl, hs, -⟩ := owns_strs h2
    exact ⟨⟨a0, _, c0⟩, h1, hs, h3⟩
  have HDR : Hid (∀ w', Below w1.heap.size w1 w' → Calls Tryd.prog 48 #[.agg #[.slice x.a x.n x.c, .slice y.a y.n y.c, .slice z.a z.n z.c], .int .i64 now] w' fun o w'' => ∃ p : Sl, o = .returned (.slice p.a p.n p.c) ∧ StrsAt w'' p.a p.n p.c (dueL now s.M) ∧ Below w'.heap.size w' w'') := fun w' hb => by
    have hd := (hR.dr.below hb)
    obtain ⟨a0, c0, e0, hu, -⟩ := hd.un
    obtain ⟨a2, c2, e2, hz, -⟩ := hd.at_
    unfold Sl.v at e0 e2
    rw [e0, e2]
    have e5 : (s.M.map Prod.snd).length = s.M.length := List.length_map _
    have e6 := nms_length s.M
    rw [e5] at hz ⊢
    rw [e6] at hu ⊢
    refine (rdue_any w' x.a a0 a2 x.n s.M.length x.c c0 c2 s.M now hu hz (by omega) rfl).mono fun o w'' hh => ?_
    obtain ⟨v, h1, h2, h3⟩ := hh
    obtain ⟨a0, c0, rfl, hs, -⟩ := owns_strs h2
    exact ⟨⟨a0, _, c0⟩, h1, hs, h3⟩
  have HSD : Hid (∀ w' (p r : Sl), StrsAt w' p.a p.n p.c (dueL now s.M) → StrsAt w' r.a r.n r.c (dueL now s.M) → Calls Tryd.prog 25 #[.slice p.a p.n p.c, .slice r.a r.n r.c] w' fun o w'' => o = .returned (.bool true) ∧ Below w'.heap.size w' w'') := fun w' p r h1 h2 => by
    have h := same_any p.a r.a p.n r.n p.c r.c (dueL now s.M) (dueL now s.M) w' h1 h2
    rw [decide_eq_true rfl] at h
    exact h
  have HAH : Hid (∀ w', Below w1.heap.size w1 w' → Calls Tryd.prog 24 #[.pointer (some ⟨f, 0, none⟩), .string q] w' fun o w'' => o = .returned (.int .i64 (plc q (nms s.L))) ∧ Below w'.heap.size w' w'') := fun w' hb => fahead_w (hF.below hb) q
  have HPL : Hid (∀ w', Below w1.heap.size w1 w' → Calls Tryd.prog 49 #[.slice x.a x.n x.c, .string q] w' fun o w'' => o = .returned (.int .i64 (plc q (nms s.L))) ∧ Below w'.heap.size w' w'') := fun w' hb => (rplace_x (hR.below hb (fun _ hk => hk)) q).mono fun o w'' ⟨h1, h2⟩ => ⟨h1, by rw [h2]; exact Below.refl _ _⟩
  have h0 := HC.out w1.drew (below_drewN (Below.refl _ w1) 1)
  dsimp only at h0
  generalize capF s.H e = CC at *
  generalize plc q (nms s.L) = PP at *
  clear hK hF hR hq1 hbn hb4 hlen hm
  go_wp2_with fail
  refine wp_region_held_drew (S := fun w' => w'.cell? ⟨bx, 0, none⟩ = some (.int .i64 e) ∧ w'.cell? ⟨bx, 1, none⟩ = some (.int .i64 gd) ∧ w'.cell? ⟨bx, 2, none⟩ = some (.slice a.a a.n a.c) ∧ w'.cell? ⟨bx, 3, none⟩ = some (.slice b.a b.n b.c) ∧ w'.cell? ⟨bx, 4, none⟩ = some (.slice c.a c.n c.c) ∧ w'.cell? ⟨bx, 5, none⟩ = some (.slice x.a x.n x.c) ∧ w'.cell? ⟨bx, 6, none⟩ = some (.slice y.a y.n y.c) ∧ w'.cell? ⟨bx, 7, none⟩ = some (.slice z.a z.n z.c) ∧ Below w1.heap.size w1 w') (by kernel_rfl) ?_ (fun hHeld => ?_)
  · exact h0
  refine wpAnyH_take (i := 0) (oi := { dst := some 14, op := Op.move (Operand.tmp 0), type := 25, pos := "law.go:109", after := #[], guard := none }) (v := ?_) rfl (by kernel_rfl) (by kernel_rfl) (by kernel_rfl) (fun _ _ _ h => h) (Or.inl ⟨by rfl, ?_⟩) (by assumption) ?_
  rotate_left
  · intro w hSw
    try dsimp only at hSw
    go_simp
    first | done | with_reducible rfl
  try simp only [Act.put, List.setIfInBounds_toArray, List.set_cons_zero, List.set_cons_succ]
  refine wpAnyH_take (i := 2) (oi := { dst := some 16, op := Op.fieldAddr 33 (Operand.tmp 5) 2, type := 0, pos := "law.go:109", after := #[], guard := none }) (v := ?_) rfl (by kernel_rfl) (by kernel_rfl) (by kernel_rfl) (fun _ _ _ h => h) (Or.inl ⟨by rfl, ?_⟩) (by assumption) ?_
  rotate_left
  · intro w hSw
    try dsimp only at hSw
    go_simp
    first | done | with_reducible rfl
  try simp only [Act.put, List.setIfInBounds_toArray, List.set_cons_zero, List.set_cons_succ]
  refine wpAnyH_take (i := 3) (oi := { dst := some 17, op := Op.load 27 (Operand.tmp 16), type := 27, pos := "law.go:109", after := #[{ on := 2, ground := Ground.data }], guard := none }) (v := ?_) rfl (by kernel_rfl) (by kernel_rfl) (by kernel_rfl) (fun _ _ _ h => h) (Or.inl ⟨by rfl, ?_⟩) (by assumption) ?_
  rotate_left
  · intro w hSw
    try dsimp only at hSw
    go_simp
    first | done | with_reducible rfl
  try simp only [Act.put, List.setIfInBounds_toArray, List.set_cons_zero, List.set_cons_succ]
  refine wpAnyH_ready (rs := [1]) (by kernel_rfl) (by simp) ?_
  refine AllReadyH.cons (o := { dst := some 15, op := Op.call { callee := Callee.value (Operand.func 34), args := #[Operand.tmp 14], argTypes := #[25] }, type := 27, pos := "law.go:109", after := #[{ on := 0, ground := Ground.data }], guard := none }) rfl (fun K hK => ?_) AllReadyH.nil
  go_simp
  (go_at_call 34; refine (HNM.out _ (and8 (by assumption))).mono ?_; rintro o w2 ⟨rfl, hs2, hbx⟩)
  try go_wp2_with fail
  refine hK.out _ _ ?_ (fun hHeld => ?_)
  · first | assumption | exact HC.out _ (Below.trans (and8 (by assumption)) (hbx.mono (Below.size (and8 (by assumption)))))
  clear hK K
  try simp only [Act.put, List.setIfInBounds_toArray, List.set_cons_zero, List.set_cons_succ]
  refine wpAnyH_ready (rs := [4]) (by kernel_rfl) (by simp) ?_
  refine AllReadyH.cons (o := { dst := some 18, op := Op.call { callee := Callee.value (Operand.func 25), args := #[Operand.tmp 15, Operand.tmp 17], argTypes := #[27, 27] }, type := 4, pos := "law.go:109", after := #[{ on := 1, ground := Ground.data }, { on := 3, ground := Ground.data }, { on := 1, ground := Ground.chain }], guard := none }) rfl (fun K hK => ?_) AllReadyH.nil
  go_simp
  (go_at_call 25; refine (HSM.out _ (and8 (by assumption)) _ _ _ hs2).mono ?_; rintro o w3 ⟨rfl, hbx⟩)
  try go_wp2_with fail
  refine hK.out _ _ ?_ (fun hHeld => ?_)
  · first | assumption | exact HC.out _ (Below.trans (and8 (by assumption)) (hbx.mono (Below.size (and8 (by assumption)))))
  clear hK K
  try simp only [Act.put, List.setIfInBounds_toArray, List.set_cons_zero, List.set_cons_succ]
  refine wpAnyH_take (i := 5) (oi := { dst := some 19, op := Op.unOp UnOp.not 4 (Operand.tmp 18), type := 4, pos := "law.go:109", after := #[{ on := 4, ground := Ground.data }], guard := none }) (v := ?_) rfl (by kernel_rfl) (by kernel_rfl) (by kernel_rfl) (fun _ _ _ h => h) (Or.inl ⟨by rfl, ?_⟩) (by assumption) ?_
  rotate_left
  · intro w hSw
    try dsimp only at hSw
    go_simp
    first | done | with_reducible rfl
  try simp only [Act.put, List.setIfInBounds_toArray, List.set_cons_zero, List.set_cons_succ]
  refine wpAnyH_take (i := 6) (oi := { dst := some 20, op := Op.move (Operand.tmp 19), type := 4, pos := "law.go:109", after := #[{ on := 5, ground := Ground.data }, { on := 4, ground := Ground.chain }], guard := none }) (v := ?_) rfl (by kernel_rfl) (by kernel_rfl) (by kernel_rfl) (fun _ _ _ h => h) (Or.inl ⟨by rfl, ?_⟩) (by assumption) ?_
  rotate_left
  · intro w hSw
    try dsimp only at hSw
    go_simp
    first | done | with_reducible rfl
  try simp only [Act.put, List.setIfInBounds_toArray, List.set_cons_zero, List.set_cons_succ]
  refine wpAnyH_take (i := 7) (oi := { dst := some 21, op := Op.move (Operand.tmp 0), type := 25, pos := "law.go:109", after := #[{ on := 6, ground := Ground.guard }], guard := some (6, false) }) (v := ?_) rfl (by kernel_rfl) (by kernel_rfl) (by kernel_rfl) (fun _ _ _ h => h) (Or.inl ⟨by rfl, ?_⟩) (by assumption) ?_
  rotate_left
  · intro w hSw
    try dsimp only at hSw
    go_simp
    first | done | with_reducible rfl
  try simp only [Act.put, List.setIfInBounds_toArray, List.set_cons_zero, List.set_cons_succ]
  refine wpAnyH_take (i := 9) (oi := { dst := some 23, op := Op.fieldAddr 33 (Operand.tmp 5) 3, type := 0, pos := "law.go:109", after := #[{ on := 6, ground := Ground.guard }], guard := some (6, false) }) (v := ?_) rfl (by kernel_rfl) (by kernel_rfl) (by kernel_rfl) (fun _ _ _ h => h) (Or.inl ⟨by rfl, ?_⟩) (by assumption) ?_
  rotate_left
  · intro w hSw
    try dsimp only at hSw
    go_simp
    first | done | with_reducible rfl
  try simp only [Act.put, List.setIfInBounds_toArray, List.set_cons_zero, List.set_cons_succ]
  refine wpAnyH_take (i := 10) (oi := { dst := some 24, op := Op.load 28 (Operand.tmp 23), type := 28, pos := "law.go:109", after := #[{ on := 9, ground := Ground.data }, { on := 6, ground := Ground.guard }], guard := some (6, false) }) (v := ?_) rfl (by kernel_rfl) (by kernel_rfl) (by kernel_rfl) (fun _ _ _ h => h) (Or.inl ⟨by rfl, ?_⟩) (by assumption) ?_
  rotate_left
  · intro w hSw
    try dsimp only at hSw
    go_simp
    first | done | with_reducible rfl
  try simp only [Act.put, List.setIfInBounds_toArray, List.set_cons_zero, List.set_cons_succ]
  refine wpAnyH_ready (rs := [8]) (by kernel_rfl) (by simp) ?_
  refine AllReadyH.cons (o := { dst := some 22, op := Op.call { callee := Callee.value (Operand.func 35), args := #[Operand.tmp 21], argTypes := #[25] }, type := 28, pos := "law.go:109", after := #[{ on := 7, ground := Ground.data }, { on := 6, ground := Ground.chain }, { on := 6, ground := Ground.guard }], guard := some (6, false) }) rfl (fun K hK => ?_) AllReadyH.nil
  go_simp
  (go_at_call 35; refine (HST.out _ (and8 (by assumption))).mono ?_; rintro o w4 ⟨rfl, hs4, hbx⟩)
  try go_wp2_with fail
  refine hK.out _ _ ?_ (fun hHeld => ?_)
  · first | assumption | exact HC.out _ (Below.trans (and8 (by assumption)) (hbx.mono (Below.size (and8 (by assumption)))))
  clear hK K
  try simp only [Act.put, List.setIfInBounds_toArray, List.set_cons_zero, List.set_cons_succ]
  refine wpAnyH_ready (rs := [11]) (by kernel_rfl) (by simp) ?_
  refine AllReadyH.cons (o := { dst := some 25, op := Op.call { callee := Callee.value (Operand.func 36), args := #[Operand.tmp 22, Operand.tmp 24], argTypes := #[28, 28] }, type := 4, pos := "law.go:109", after := #[{ on := 8, ground := Ground.data }, { on := 10, ground := Ground.data }, { on := 8, ground := Ground.chain }, { on := 6, ground := Ground.guard }], guard := some (6, false) }) rfl (fun K hK => ?_) AllReadyH.nil
  go_simp
  (go_at_call 36; refine (HSI.out _ (and8 (by assumption)) _ _ hs4).mono ?_; rintro o w5 ⟨rfl, hbx⟩)
  try go_wp2_with fail
  refine hK.out _ _ ?_ (fun hHeld => ?_)
  · first | assumption | exact HC.out _ (Below.trans (and8 (by assumption)) (hbx.mono (Below.size (and8 (by assumption)))))
  clear hK K
  try simp only [Act.put, List.setIfInBounds_toArray, List.set_cons_zero, List.set_cons_succ]
  refine wpAnyH_take (i := 12) (oi := { dst := some 26, op := Op.unOp UnOp.not 4 (Operand.tmp 25), type := 4, pos := "law.go:109", after := #[{ on := 11, ground := Ground.data }, { on := 6, ground := Ground.guard }], guard := some (6, false) }) (v := ?_) rfl (by kernel_rfl) (by kernel_rfl) (by kernel_rfl) (fun _ _ _ h => h) (Or.inl ⟨by rfl, ?_⟩) (by assumption) ?_
  rotate_left
  · intro w hSw
    try dsimp only at hSw
    go_simp
    first | done | with_reducible rfl
  try simp only [Act.put, List.setIfInBounds_toArray, List.set_cons_zero, List.set_cons_succ]
  refine wpAnyH_take (i := 13) (oi := { dst := some 27, op := Op.pick (Operand.tmp 20) (Operand.const (Value.bool true)) (Operand.tmp 26), type := 4, pos := "law.go:109", after := #[{ on := 6, ground := Ground.data }, { on := 12, ground := Ground.data }], guard := none }) (v := ?_) rfl (by kernel_rfl) (by kernel_rfl) (by kernel_rfl) (fun _ _ _ h => h) (Or.inl ⟨by rfl, ?_⟩) (by assumption) ?_
  rotate_left
  · intro w hSw
    try dsimp only at hSw
    go_simp
    first | done | with_reducible rfl
  try simp only [Act.put, List.setIfInBounds_toArray, List.set_cons_zero, List.set_cons_succ]
  refine wpAnyH_take (i := 14) (oi := { dst := some 28, op := Op.move (Operand.tmp 27), type := 4, pos := "law.go:109", after := #[{ on := 13, ground := Ground.data }, { on := 11, ground := Ground.chain }], guard := none }) (v := ?_) rfl (by kernel_rfl) (by kernel_rfl) (by kernel_rfl) (fun _ _ _ h => h) (Or.inl ⟨by rfl, ?_⟩) (by assumption) ?_
  rotate_left
  · intro w hSw
    try dsimp only at hSw
    go_simp
    first | done | with_reducible rfl
  try simp only [Act.put, List.setIfInBounds_toArray, List.set_cons_zero, List.set_cons_succ]
  refine wpAnyH_take (i := 15) (oi := { dst := some 29, op := Op.move (Operand.tmp 0), type := 25, pos := "law.go:109", after := #[{ on := 14, ground := Ground.guard }], guard := some (14, false) }) (v := ?_) rfl (by kernel_rfl) (by kernel_rfl) (by kernel_rfl) (fun _ _ _ h => h) (Or.inl ⟨by rfl, ?_⟩) (by assumption) ?_
  rotate_left
  · intro w hSw
    try dsimp only at hSw
    go_simp
    first | done | with_reducible rfl
  try simp only [Act.put, List.setIfInBounds_toArray, List.set_cons_zero, List.set_cons_succ]
  refine wpAnyH_take (i := 17) (oi := { dst := some 31, op := Op.load 33 (Operand.tmp 5), type := 33, pos := "law.go:109", after := #[{ on := 14, ground := Ground.guard }], guard := some (14, false) }) (v := ?_) rfl (by kernel_rfl) (by kernel_rfl) (by kernel_rfl) (fun _ _ _ h => h) (Or.inl ⟨by rfl, ?_⟩) (by assumption) ?_
  rotate_left
  · intro w hSw
    try dsimp only at hSw
    go_simp
    first | done | with_reducible rfl
  try simp only [Act.put, List.setIfInBounds_toArray, List.set_cons_zero, List.set_cons_succ]
  refine wpAnyH_ready (rs := [16]) (by kernel_rfl) (by simp) ?_
  refine AllReadyH.cons (o := { dst := some 30, op := Op.call { callee := Callee.value (Operand.func 18), args := #[Operand.tmp 29], argTypes := #[25] }, type := 3, pos := "law.go:109", after := #[{ on := 15, ground := Ground.data }, { on := 14, ground := Ground.chain }, { on := 14, ground := Ground.guard }], guard := some (14, false) }) rfl (fun K hK => ?_) AllReadyH.nil
  go_simp
  (go_at_call 18; refine (HCP.out _ (and8 (by assumption))).mono ?_; rintro o w6 ⟨rfl, hbx⟩)
  try go_wp2_with fail
  refine hK.out _ _ ?_ (fun hHeld => ?_)
  · first | assumption | exact HC.out _ (Below.trans (and8 (by assumption)) (hbx.mono (Below.size (and8 (by assumption)))))
  clear hK K
  try simp only [Act.put, List.setIfInBounds_toArray, List.set_cons_zero, List.set_cons_succ]
  refine wpAnyH_ready (rs := [18]) (by kernel_rfl) (by simp) ?_
  refine AllReadyH.cons (o := { dst := some 32, op := Op.call { callee := Callee.value (Operand.func 47), args := #[Operand.tmp 31], argTypes := #[33] }, type := 3, pos := "law.go:109", after := #[{ on := 17, ground := Ground.data }, { on := 16, ground := Ground.chain }, { on := 14, ground := Ground.guard }], guard := some (14, false) }) rfl (fun K hK => ?_) AllReadyH.nil
  go_simp
  (go_at_call 47; refine (HCR.out _ (and8 (by assumption))).mono ?_; rintro o w7 ⟨rfl, hbx⟩)
  try go_wp2_with fail
  refine hK.out _ _ ?_ (fun hHeld => ?_)
  · first | assumption | exact HC.out _ (Below.trans (and8 (by assumption)) (hbx.mono (Below.size (and8 (by assumption)))))
  clear hK K
  try simp only [Act.put, List.setIfInBounds_toArray, List.set_cons_zero, List.set_cons_succ]
  refine wpAnyH_take (i := 19) (oi := { dst := some 33, op := Op.binOp BinOp.neq 3 (Operand.tmp 30) (Operand.tmp 32) 3, type := 4, pos := "law.go:109", after := #[{ on := 16, ground := Ground.data }, { on := 18, ground := Ground.data }, { on := 14, ground := Ground.guard }], guard := some (14, false) }) (v := ?_) rfl (by kernel_rfl) (by kernel_rfl) (by kernel_rfl) (fun _ _ _ h => h) (Or.inl ⟨by rfl, ?_⟩) (by assumption) ?_
  rotate_left
  · intro w hSw
    try dsimp only at hSw
    go_simp
    first | done | with_reducible rfl
  try simp only [Act.put, List.setIfInBounds_toArray, List.set_cons_zero, List.set_cons_succ]
  refine wpAnyH_take (i := 20) (oi := { dst := some 34, op := Op.pick (Operand.tmp 28) (Operand.const (Value.bool true)) (Operand.tmp 33), type := 4, pos := "law.go:109", after := #[{ on := 14, ground := Ground.data }, { on := 19, ground := Ground.data }], guard := none }) (v := ?_) rfl (by kernel_rfl) (by kernel_rfl) (by kernel_rfl) (fun _ _ _ h => h) (Or.inl ⟨by rfl, ?_⟩) (by assumption) ?_
  rotate_left
  · intro w hSw
    try dsimp only at hSw
    go_simp
    first | done | with_reducible rfl
  try simp only [Act.put, List.setIfInBounds_toArray, List.set_cons_zero, List.set_cons_succ]
  refine wpAnyH_take (i := 21) (oi := { dst := some 35, op := Op.move (Operand.tmp 34), type := 4, pos := "law.go:109", after := #[{ on := 20, ground := Ground.data }, { on := 18, ground := Ground.chain }], guard := none }) (v := ?_) rfl (by kernel_rfl) (by kernel_rfl) (by kernel_rfl) (fun _ _ _ h => h) (Or.inl ⟨by rfl, ?_⟩) (by assumption) ?_
  rotate_left
  · intro w hSw
    try dsimp only at hSw
    go_simp
    first | done | with_reducible rfl
  try simp only [Act.put, List.setIfInBounds_toArray, List.set_cons_zero, List.set_cons_succ]
  refine wpAnyH_take (i := 22) (oi := { dst := some 36, op := Op.move (Operand.tmp 0), type := 25, pos := "law.go:109", after := #[{ on := 21, ground := Ground.guard }], guard := some (21, false) }) (v := ?_) rfl (by kernel_rfl) (by kernel_rfl) (by kernel_rfl) (fun _ _ _ h => h) (Or.inl ⟨by rfl, ?_⟩) (by assumption) ?_
  rotate_left
  · intro w hSw
    try dsimp only at hSw
    go_simp
    first | done | with_reducible rfl
  try simp only [Act.put, List.setIfInBounds_toArray, List.set_cons_zero, List.set_cons_succ]
  refine wpAnyH_take (i := 23) (oi := { dst := some 37, op := Op.move (Operand.tmp 3), type := 3, pos := "law.go:109", after := #[{ on := 21, ground := Ground.guard }], guard := some (21, false) }) (v := ?_) rfl (by kernel_rfl) (by kernel_rfl) (by kernel_rfl) (fun _ _ _ h => h) (Or.inl ⟨by rfl, ?_⟩) (by assumption) ?_
  rotate_left
  · intro w hSw
    try dsimp only at hSw
    go_simp
    first | done | with_reducible rfl
  try simp only [Act.put, List.setIfInBounds_toArray, List.set_cons_zero, List.set_cons_succ]
  refine wpAnyH_take (i := 25) (oi := { dst := some 39, op := Op.fieldAddr 33 (Operand.tmp 5) 5, type := 0, pos := "law.go:109", after := #[{ on := 21, ground := Ground.guard }], guard := some (21, false) }) (v := ?_) rfl (by kernel_rfl) (by kernel_rfl) (by kernel_rfl) (fun _ _ _ h => h) (Or.inl ⟨by rfl, ?_⟩) (by assumption) ?_
  rotate_left
  · intro w hSw
    try dsimp only at hSw
    go_simp
    first | done | with_reducible rfl
  try simp only [Act.put, List.setIfInBounds_toArray, List.set_cons_zero, List.set_cons_succ]
  refine wpAnyH_take (i := 26) (oi := { dst := some 40, op := Op.load 31 (Operand.tmp 39), type := 31, pos := "law.go:109", after := #[{ on := 25, ground := Ground.data }, { on := 21, ground := Ground.guard }], guard := some (21, false) }) (v := ?_) rfl (by kernel_rfl) (by kernel_rfl) (by kernel_rfl) (fun _ _ _ h => h) (Or.inl ⟨by rfl, ?_⟩) (by assumption) ?_
  rotate_left
  · intro w hSw
    try dsimp only at hSw
    go_simp
    first | done | with_reducible rfl
  try simp only [Act.put, List.setIfInBounds_toArray, List.set_cons_zero, List.set_cons_succ]
  refine wpAnyH_take (i := 27) (oi := { dst := some 41, op := Op.move (Operand.tmp 3), type := 3, pos := "law.go:109", after := #[{ on := 21, ground := Ground.guard }], guard := some (21, false) }) (v := ?_) rfl (by kernel_rfl) (by kernel_rfl) (by kernel_rfl) (fun _ _ _ h => h) (Or.inl ⟨by rfl, ?_⟩) (by assumption) ?_
  rotate_left
  · intro w hSw
    try dsimp only at hSw
    go_simp
    first | done | with_reducible rfl
  try simp only [Act.put, List.setIfInBounds_toArray, List.set_cons_zero, List.set_cons_succ]
  refine wpAnyH_ready (rs := [24]) (by kernel_rfl) (by simp) ?_
  refine AllReadyH.cons (o := { dst := some 38, op := Op.call { callee := Callee.value (Operand.func 29), args := #[Operand.tmp 36, Operand.tmp 37], argTypes := #[25, 3] }, type := 27, pos := "law.go:109", after := #[{ on := 22, ground := Ground.data }, { on := 23, ground := Ground.data }, { on := 21, ground := Ground.chain }, { on := 21, ground := Ground.guard }], guard := some (21, false) }) rfl (fun K hK => ?_) AllReadyH.nil
  go_simp
  (go_at_call 29; refine (HDU.out _ (and8 (by assumption))).mono ?_; rintro o w8 ⟨p8, rfl, hs8, hbx⟩)
  try go_wp2_with fail
  refine hK.out _ _ ?_ (fun hHeld => ?_)
  · first | assumption | exact HC.out _ (Below.trans (and8 (by assumption)) (hbx.mono (Below.size (and8 (by assumption)))))
  clear hK K
  try simp only [Act.put, List.setIfInBounds_toArray, List.set_cons_zero, List.set_cons_succ]
  refine wpAnyH_ready (rs := [28]) (by kernel_rfl) (by simp) ?_
  refine AllReadyH.cons (o := { dst := some 42, op := Op.call { callee := Callee.value (Operand.func 48), args := #[Operand.tmp 40, Operand.tmp 41], argTypes := #[31, 3] }, type := 27, pos := "law.go:109", after := #[{ on := 26, ground := Ground.data }, { on := 27, ground := Ground.data }, { on := 24, ground := Ground.chain }, { on := 21, ground := Ground.guard }], guard := some (21, false) }) rfl (fun K hK => ?_) AllReadyH.nil
  go_simp
  (go_at_call 48; refine (HDR.out _ (and8 (by assumption))).mono ?_; rintro o w9 ⟨p9, rfl, hs9, hbx⟩)
  try go_wp2_with fail
  refine hK.out _ _ ?_ (fun hHeld => ?_)
  · first | assumption | exact HC.out _ (Below.trans (and8 (by assumption)) (hbx.mono (Below.size (and8 (by assumption)))))
  clear hK K
  try simp only [Act.put, List.setIfInBounds_toArray, List.set_cons_zero, List.set_cons_succ]
  refine wpAnyH_ready (rs := [29]) (by kernel_rfl) (by simp) ?_
  refine AllReadyH.cons (o := { dst := some 43, op := Op.call { callee := Callee.value (Operand.func 25), args := #[Operand.tmp 38, Operand.tmp 42], argTypes := #[27, 27] }, type := 4, pos := "law.go:109", after := #[{ on := 24, ground := Ground.data }, { on := 28, ground := Ground.data }, { on := 28, ground := Ground.chain }, { on := 21, ground := Ground.guard }], guard := some (21, false) }) rfl (fun K hK => ?_) AllReadyH.nil
  go_simp
  (go_at_call 25; refine (HSD.out _ p8 p9 (hs8.below (Nat.le_refl _) hbx) hs9).mono ?_; rintro o w10 ⟨rfl, hbx⟩)
  try go_wp2_with fail
  refine hK.out _ _ ?_ (fun hHeld => ?_)
  · first | assumption | exact HC.out _ (Below.trans (and8 (by assumption)) (hbx.mono (Below.size (and8 (by assumption)))))
  clear hK K
  try simp only [Act.put, List.setIfInBounds_toArray, List.set_cons_zero, List.set_cons_succ]
  refine wpAnyH_take (i := 30) (oi := { dst := some 44, op := Op.unOp UnOp.not 4 (Operand.tmp 43), type := 4, pos := "law.go:109", after := #[{ on := 29, ground := Ground.data }, { on := 21, ground := Ground.guard }], guard := some (21, false) }) (v := ?_) rfl (by kernel_rfl) (by kernel_rfl) (by kernel_rfl) (fun _ _ _ h => h) (Or.inl ⟨by rfl, ?_⟩) (by assumption) ?_
  rotate_left
  · intro w hSw
    try dsimp only at hSw
    go_simp
    first | done | with_reducible rfl
  try simp only [Act.put, List.setIfInBounds_toArray, List.set_cons_zero, List.set_cons_succ]
  refine wpAnyH_take (i := 31) (oi := { dst := some 45, op := Op.pick (Operand.tmp 35) (Operand.const (Value.bool true)) (Operand.tmp 44), type := 4, pos := "law.go:109", after := #[{ on := 21, ground := Ground.data }, { on := 30, ground := Ground.data }], guard := none }) (v := ?_) rfl (by kernel_rfl) (by kernel_rfl) (by kernel_rfl) (fun _ _ _ h => h) (Or.inl ⟨by rfl, ?_⟩) (by assumption) ?_
  rotate_left
  · intro w hSw
    try dsimp only at hSw
    go_simp
    first | done | with_reducible rfl
  try simp only [Act.put, List.setIfInBounds_toArray, List.set_cons_zero, List.set_cons_succ]
  refine wpAnyH_take (i := 32) (oi := { dst := some 46, op := Op.move (Operand.tmp 45), type := 4, pos := "law.go:109", after := #[{ on := 31, ground := Ground.data }, { on := 29, ground := Ground.chain }], guard := none }) (v := ?_) rfl (by kernel_rfl) (by kernel_rfl) (by kernel_rfl) (fun _ _ _ h => h) (Or.inl ⟨by rfl, ?_⟩) (by assumption) ?_
  rotate_left
  · intro w hSw
    try dsimp only at hSw
    go_simp
    first | done | with_reducible rfl
  try simp only [Act.put, List.setIfInBounds_toArray, List.set_cons_zero, List.set_cons_succ]
  refine wpAnyH_take (i := 33) (oi := { dst := some 47, op := Op.move (Operand.tmp 0), type := 25, pos := "law.go:109", after := #[{ on := 32, ground := Ground.guard }], guard := some (32, false) }) (v := ?_) rfl (by kernel_rfl) (by kernel_rfl) (by kernel_rfl) (fun _ _ _ h => h) (Or.inl ⟨by rfl, ?_⟩) (by assumption) ?_
  rotate_left
  · intro w hSw
    try dsimp only at hSw
    go_simp
    first | done | with_reducible rfl
  try simp only [Act.put, List.setIfInBounds_toArray, List.set_cons_zero, List.set_cons_succ]
  refine wpAnyH_take (i := 34) (oi := { dst := some 48, op := Op.move (Operand.tmp 2), type := 9, pos := "law.go:109", after := #[{ on := 32, ground := Ground.guard }], guard := some (32, false) }) (v := ?_) rfl (by kernel_rfl) (by kernel_rfl) (by kernel_rfl) (fun _ _ _ h => h) (Or.inl ⟨by rfl, ?_⟩) (by assumption) ?_
  rotate_left
  · intro w hSw
    try dsimp only at hSw
    go_simp
    first | done | with_reducible rfl
  try simp only [Act.put, List.setIfInBounds_toArray, List.set_cons_zero, List.set_cons_succ]
  refine wpAnyH_take (i := 36) (oi := { dst := some 50, op := Op.fieldAddr 33 (Operand.tmp 5) 5, type := 0, pos := "law.go:109", after := #[{ on := 32, ground := Ground.guard }], guard := some (32, false) }) (v := ?_) rfl (by kernel_rfl) (by kernel_rfl) (by kernel_rfl) (fun _ _ _ h => h) (Or.inl ⟨by rfl, ?_⟩) (by assumption) ?_
  rotate_left
  · intro w hSw
    try dsimp only at hSw
    go_simp
    first | done | with_reducible rfl
  try simp only [Act.put, List.setIfInBounds_toArray, List.set_cons_zero, List.set_cons_succ]
  refine wpAnyH_take (i := 37) (oi := { dst := some 51, op := Op.fieldAddr 31 (Operand.tmp 50) 0, type := 0, pos := "law.go:109", after := #[{ on := 36, ground := Ground.data }, { on := 32, ground := Ground.guard }], guard := some (32, false) }) (v := ?_) rfl (by kernel_rfl) (by kernel_rfl) (by kernel_rfl) (fun _ _ _ h => h) (Or.inl ⟨by rfl, ?_⟩) (by assumption) ?_
  rotate_left
  · intro w hSw
    try dsimp only at hSw
    go_simp
    first | done | with_reducible rfl
  try simp only [Act.put, List.setIfInBounds_toArray, List.set_cons_zero, List.set_cons_succ]
  refine wpAnyH_take (i := 38) (oi := { dst := some 52, op := Op.load 27 (Operand.tmp 51), type := 27, pos := "law.go:109", after := #[{ on := 37, ground := Ground.data }, { on := 32, ground := Ground.guard }], guard := some (32, false) }) (v := ?_) rfl (by kernel_rfl) (by kernel_rfl) (by kernel_rfl) (fun _ _ _ h => h) (Or.inl ⟨by rfl, ?_⟩) (by assumption) ?_
  rotate_left
  · intro w hSw
    try dsimp only at hSw
    go_simp
    first | done | with_reducible rfl
  try simp only [Act.put, List.setIfInBounds_toArray, List.set_cons_zero, List.set_cons_succ]
  refine wpAnyH_take (i := 39) (oi := { dst := some 53, op := Op.move (Operand.tmp 2), type := 9, pos := "law.go:109", after := #[{ on := 32, ground := Ground.guard }], guard := some (32, false) }) (v := ?_) rfl (by kernel_rfl) (by kernel_rfl) (by kernel_rfl) (fun _ _ _ h => h) (Or.inl ⟨by rfl, ?_⟩) (by assumption) ?_
  rotate_left
  · intro w hSw
    try dsimp only at hSw
    go_simp
    first | done | with_reducible rfl
  try simp only [Act.put, List.setIfInBounds_toArray, List.set_cons_zero, List.set_cons_succ]
  refine wpAnyH_ready (rs := [35]) (by kernel_rfl) (by simp) ?_
  refine AllReadyH.cons (o := { dst := some 49, op := Op.call { callee := Callee.value (Operand.func 24), args := #[Operand.tmp 47, Operand.tmp 48], argTypes := #[25, 9] }, type := 3, pos := "law.go:109", after := #[{ on := 33, ground := Ground.data }, { on := 34, ground := Ground.data }, { on := 32, ground := Ground.chain }, { on := 32, ground := Ground.guard }], guard := some (32, false) }) rfl (fun K hK => ?_) AllReadyH.nil
  go_simp
  (go_at_call 24; refine (HAH.out _ (and8 (by assumption))).mono ?_; rintro o w11 ⟨rfl, hbx⟩)
  try go_wp2_with fail
  refine hK.out _ _ ?_ (fun hHeld => ?_)
  · first | assumption | exact HC.out _ (Below.trans (and8 (by assumption)) (hbx.mono (Below.size (and8 (by assumption)))))
  clear hK K
  try simp only [Act.put, List.setIfInBounds_toArray, List.set_cons_zero, List.set_cons_succ]
  refine wpAnyH_ready (rs := [40]) (by kernel_rfl) (by simp) ?_
  refine AllReadyH.cons (o := { dst := some 54, op := Op.call { callee := Callee.value (Operand.func 49), args := #[Operand.tmp 52, Operand.tmp 53], argTypes := #[27, 9] }, type := 3, pos := "law.go:109", after := #[{ on := 38, ground := Ground.data }, { on := 39, ground := Ground.data }, { on := 35, ground := Ground.chain }, { on := 32, ground := Ground.guard }], guard := some (32, false) }) rfl (fun K hK => ?_) AllReadyH.nil
  go_simp
  (go_at_call 49; refine (HPL.out _ (and8 (by assumption))).mono ?_; rintro o w12 ⟨rfl, hbx⟩)
  try go_wp2_with fail
  refine hK.out _ _ ?_ (fun hHeld => ?_)
  · first | assumption | exact HC.out _ (Below.trans (and8 (by assumption)) (hbx.mono (Below.size (and8 (by assumption)))))
  clear hK K
  try simp only [Act.put, List.setIfInBounds_toArray, List.set_cons_zero, List.set_cons_succ]
  refine wpAnyH_take (i := 41) (oi := { dst := some 55, op := Op.binOp BinOp.neq 3 (Operand.tmp 49) (Operand.tmp 54) 3, type := 4, pos := "law.go:109", after := #[{ on := 35, ground := Ground.data }, { on := 40, ground := Ground.data }, { on := 32, ground := Ground.guard }], guard := some (32, false) }) (v := ?_) rfl (by kernel_rfl) (by kernel_rfl) (by kernel_rfl) (fun _ _ _ h => h) (Or.inl ⟨by rfl, ?_⟩) (by assumption) ?_
  rotate_left
  · intro w hSw
    try dsimp only at hSw
    go_simp
    first | done | with_reducible rfl
  try simp only [Act.put, List.setIfInBounds_toArray, List.set_cons_zero, List.set_cons_succ]
  refine wpAnyH_take (i := 42) (oi := { dst := some 56, op := Op.pick (Operand.tmp 46) (Operand.const (Value.bool true)) (Operand.tmp 55), type := 4, pos := "law.go:109", after := #[{ on := 32, ground := Ground.data }, { on := 41, ground := Ground.data }], guard := none }) (v := ?_) rfl (by kernel_rfl) (by kernel_rfl) (by kernel_rfl) (fun _ _ _ h => h) (Or.inl ⟨by rfl, ?_⟩) (by assumption) ?_
  rotate_left
  · intro w hSw
    try dsimp only at hSw
    go_simp
    first | done | with_reducible rfl
  try simp only [Act.put, List.setIfInBounds_toArray, List.set_cons_zero, List.set_cons_succ]
  refine wpAnyH_done (by kernel_rfl) ?_ _
  all_goals (
    go_wp2_with fail
    apply HKK.out
    exact and8 (by assumption))
end Go.Proofs.YtmlkpfkeeifgeaaDoor
namespace Go.Proofs.YtmlkpfkeeifgeaaDoor
open Go.ChangeShapes Go.WideShapes Go.ChangeAt Go.RowKit Go.Joins Go.Deep

set_option maxHeartbeats 8000000 in
set_option maxRecDepth 1000000 in
theorem reg7 (w1 : World) {f bx i a1 o1 an ak q2 p2 bn bk r2 p3 cn ck : Nat} {e gd t : Int} {v : Bool} {X : ByteArray} {x y z : Sl} (hC : ∀ w', Below w1.heap.size w1 w' → (fun w' => w'.cell? ⟨bx, 0, none⟩ = some (.int .i64 e) ∧ w'.cell? ⟨bx, 1, none⟩ = some (.int .i64 gd) ∧ w'.cell? ⟨bx, 2, none⟩ = some (.slice (some ⟨a1, o1, none⟩)  an  ak) ∧ w'.cell? ⟨bx, 3, none⟩ = some (.slice (some ⟨q2, p2, none⟩)  bn  bk) ∧ w'.cell? ⟨bx, 4, none⟩ = some (.slice (some ⟨r2, p3, none⟩)  cn  ck) ∧ w'.cell? ⟨bx, 5, none⟩ = some (.slice x.a x.n x.c) ∧ w'.cell? ⟨bx, 6, none⟩ = some (.slice y.a y.n y.c) ∧ w'.cell? ⟨bx, 7, none⟩ = some (.slice z.a z.n z.c) ∧ w'.cell? ⟨a1, o1 + i, none⟩ = some (.string X) ∧ w'.cell? ⟨q2, p2 + i, none⟩ = some (.int .i64 t) ∧ w'.cell? ⟨r2, p3 + i, none⟩ = some (.bool v) ∧ Below w1.heap.size w1 w') w') (hia : i < an) (hib : i < bn) (hic : i < cn) (hL : ∀ w', Below w1.heap.size w1 w' → Calls Tryd.prog 28 #[.pointer (some ⟨f, 0, none⟩), .string X] w' fun o w'' => o = .returned (.bool v) ∧ Below w'.heap.size w' w'')
    {Q : Exit → Act → World → Prop} {s1 s2 s3 s4 s6 s7 s8 s12 s13 s14 s15 s16 s17 s18 s19 s20 s21 s22 s23 s24 s25 s26 s27 s28 s29 s30 s31 s32 s33 s34 s35 s36 s37 s38 s39 s40 s41 s42 s43 s44 s45 s46 s47 s48 s49 s50 s51 s52 s53 s54 s55 s56 s57 s58 s59 s60 s61 s62 s63 s64 s65 s66 s67 s68 s69 s70 s71 s72 s73 s74 s75 s76 s77 s78 s79 s80 s81 s82 s83 s84 s85 s86 s87 s88 s89 s90 s91 s92 s93 s94 s95 s96 s97 s98 s99 s100 s101 s102 s103 s104 s105 s106 s107 s108 s109 s110 s111 s112 s113 s114 s115 s116 s117 s118 s119 s120 : Value}
    (hK : ∀ (u74 u75 u76 u77 u78 u79 u80 u81 u82 u83 u84 u85 u86 u87 u88 u89 u90 u91 u92 u93 u94 u95 u96 u97 u98 : Value) (wx : World), Below w1.heap.size w1 wx → Q .normal ⟨#[.pointer (some ⟨f, 0, none⟩), s1, s2, s3, s4, .pointer (some ⟨bx, 0, none⟩), s6, s7, s8, .int .i64 i, .int .i64 t, .bool true, s12, s13, s14, s15, s16, s17, s18, s19, s20, s21, s22, s23, s24, s25, s26, s27, s28, s29, s30, s31, s32, s33, s34, s35, s36, s37, s38, s39, s40, s41, s42, s43, s44, s45, s46, s47, s48, s49, s50, s51, s52, s53, s54, s55, s56, s57, s58, s59, s60, s61, s62, s63, s64, s65, s66, s67, s68, s69, s70, s71, s72, s73, u74, u75, u76, u77, u78, u79, u80, u81, u82, u83, u84, u85, u86, u87, u88, u89, u90, u91, u92, u93, u94, u95, u96, u97, u98, .bool false, s100, s101, s102, s103, s104, s105, s106, s107, s108, s109, s110, s111, s112, s113, s114, s115, s116, s117, s118, s119, s120], []⟩ wx) :
    Code.wp Tryd.prog ((Tryd.f17.body.bind (regOf 7)).getD .skip) Q ⟨#[.pointer (some ⟨f, 0, none⟩), s1, s2, s3, s4, .pointer (some ⟨bx, 0, none⟩), s6, s7, s8, .int .i64 i, .int .i64 t, .bool true, s12, s13, s14, s15, s16, s17, s18, s19, s20, s21, s22, s23, s24, s25, s26, s27, s28, s29, s30, s31, s32, s33, s34, s35, s36, s37, s38, s39, s40, s41, s42, s43, s44, s45, s46, s47, s48, s49, s50, s51, s52, s53, s54, s55, s56, s57, s58, s59, s60, s61, s62, s63, s64, s65, s66, s67, s68, s69, s70, s71, s72, s73, s74, s75, s76, s77, s78, s79, s80, s81, s82, s83, s84, s85, s86, s87, s88, s89, s90, s91, s92, s93, s94, s95, s96, s97, s98, s99, s100, s101, s102, s103, s104, s105, s106, s107, s108, s109, s110, s111, s112, s113, s114, s115, s116, s117, s118, s119, s120], []⟩ w1 := by
  refine wp_mono (Q := Exit.then (fun a w => Q .normal a w) (fun _ _ _ => False)) ?_ (fun e a w h => by cases e with | normal => exact h | _ => exact False.elim h)
  conv => arg 2; whnf
  have HKK := Hid.mk' hK
  have HC := Hid.mk' hC
  have HLV := Hid.mk' hL
  have hja : (i : Int) < (an : Int) := by omega
  have hjb : (i : Int) < (bn : Int) := by omega
  have hjc : (i : Int) < (cn : Int) := by omega
  have h0 := HC.out w1.drew (below_drewN (Below.refl _ w1) 1)
  dsimp only at h0
  clear hK hC hL
  go_wp2_with fail
  refine wp_region_held_drew (S := fun w' => w'.cell? ⟨bx, 0, none⟩ = some (.int .i64 e) ∧ w'.cell? ⟨bx, 1, none⟩ = some (.int .i64 gd) ∧ w'.cell? ⟨bx, 2, none⟩ = some (.slice (some ⟨a1, o1, none⟩)  an  ak) ∧ w'.cell? ⟨bx, 3, none⟩ = some (.slice (some ⟨q2, p2, none⟩)  bn  bk) ∧ w'.cell? ⟨bx, 4, none⟩ = some (.slice (some ⟨r2, p3, none⟩)  cn  ck) ∧ w'.cell? ⟨bx, 5, none⟩ = some (.slice x.a x.n x.c) ∧ w'.cell? ⟨bx, 6, none⟩ = some (.slice y.a y.n y.c) ∧ w'.cell? ⟨bx, 7, none⟩ = some (.slice z.a z.n z.c) ∧ w'.cell? ⟨a1, o1 + i, none⟩ = some (.string X) ∧ w'.cell? ⟨q2, p2 + i, none⟩ = some (.int .i64 t) ∧ w'.cell? ⟨r2, p3 + i, none⟩ = some (.bool v) ∧ Below w1.heap.size w1 w') (by kernel_rfl) ?_ (fun hHeld => ?_)
  · exact h0
  refine wpAnyH_take (i := 0) (oi := { dst := some 74, op := Op.move (Operand.tmp 10), type := 3, pos := "law.go:114", after := #[], guard := none }) (v := ?_) rfl (by kernel_rfl) (by kernel_rfl) (by kernel_rfl) (fun _ _ _ h => h) (Or.inl ⟨by rfl, ?_⟩) (by assumption) ?_
  rotate_left
  · intro w hSw
    try dsimp only at hSw
    go_simp
    first | done | with_reducible rfl
  try simp only [Act.put, List.setIfInBounds_toArray, List.set_cons_zero, List.set_cons_succ]
  refine wpAnyH_take (i := 1) (oi := { dst := some 75, op := Op.fieldAddr 33 (Operand.tmp 5) 3, type := 0, pos := "law.go:114", after := #[], guard := none }) (v := ?_) rfl (by kernel_rfl) (by kernel_rfl) (by kernel_rfl) (fun _ _ _ h => h) (Or.inl ⟨by rfl, ?_⟩) (by assumption) ?_
  rotate_left
  · intro w hSw
    try dsimp only at hSw
    go_simp
    first | done | with_reducible rfl
  try simp only [Act.put, List.setIfInBounds_toArray, List.set_cons_zero, List.set_cons_succ]
  refine wpAnyH_take (i := 2) (oi := { dst := some 76, op := Op.load 28 (Operand.tmp 75), type := 28, pos := "law.go:114", after := #[{ on := 1, ground := Ground.data }], guard := none }) (v := ?_) rfl (by kernel_rfl) (by kernel_rfl) (by kernel_rfl) (fun _ _ _ h => h) (Or.inl ⟨by rfl, ?_⟩) (by assumption) ?_
  rotate_left
  · intro w hSw
    try dsimp only at hSw
    go_simp
    first | done | with_reducible rfl
  try simp only [Act.put, List.setIfInBounds_toArray, List.set_cons_zero, List.set_cons_succ]
  refine wpAnyH_take (i := 3) (oi := { dst := some 77, op := Op.move (Operand.tmp 9), type := 3, pos := "law.go:114", after := #[], guard := none }) (v := ?_) rfl (by kernel_rfl) (by kernel_rfl) (by kernel_rfl) (fun _ _ _ h => h) (Or.inl ⟨by rfl, ?_⟩) (by assumption) ?_
  rotate_left
  · intro w hSw
    try dsimp only at hSw
    go_simp
    first | done | with_reducible rfl
  try simp only [Act.put, List.setIfInBounds_toArray, List.set_cons_zero, List.set_cons_succ]
  refine wpAnyH_take (i := 4) (oi := { dst := some 78, op := Op.indexAddr 28 (Operand.tmp 76) (Operand.tmp 77), type := 0, pos := "law.go:114", after := #[{ on := 2, ground := Ground.data }, { on := 3, ground := Ground.data }], guard := none }) (v := ?_) rfl (by kernel_rfl) (by kernel_rfl) (by kernel_rfl) (fun _ _ _ h => h) (Or.inl ⟨by rfl, ?_⟩) (by assumption) ?_
  rotate_left
  · intro w hSw
    try dsimp only at hSw
    go_simp
    first | done | with_reducible rfl
  try simp only [Act.put, List.setIfInBounds_toArray, List.set_cons_zero, List.set_cons_succ]
  refine wpAnyH_take (i := 5) (oi := { dst := some 79, op := Op.load 3 (Operand.tmp 78), type := 3, pos := "law.go:114", after := #[{ on := 4, ground := Ground.data }], guard := none }) (v := ?_) rfl (by kernel_rfl) (by kernel_rfl) (by kernel_rfl) (fun _ _ _ h => h) (Or.inl ⟨by rfl, ?_⟩) (by assumption) ?_
  rotate_left
  · intro w hSw
    try dsimp only at hSw
    go_simp
    first | done | with_reducible rfl
  try simp only [Act.put, List.setIfInBounds_toArray, List.set_cons_zero, List.set_cons_succ]
  refine wpAnyH_take (i := 6) (oi := { dst := some 80, op := Op.binOp BinOp.neq 3 (Operand.tmp 74) (Operand.tmp 79) 3, type := 4, pos := "law.go:114", after := #[{ on := 0, ground := Ground.data }, { on := 5, ground := Ground.data }], guard := none }) (v := ?_) rfl (by kernel_rfl) (by kernel_rfl) (by kernel_rfl) (fun _ _ _ h => h) (Or.inl ⟨by rfl, ?_⟩) (by assumption) ?_
  rotate_left
  · intro w hSw
    try dsimp only at hSw
    go_simp
    first | done | with_reducible rfl
  try simp only [Act.put, List.setIfInBounds_toArray, List.set_cons_zero, List.set_cons_succ]
  refine wpAnyH_take (i := 7) (oi := { dst := some 81, op := Op.move (Operand.tmp 80), type := 4, pos := "law.go:114", after := #[{ on := 6, ground := Ground.data }], guard := none }) (v := ?_) rfl (by kernel_rfl) (by kernel_rfl) (by kernel_rfl) (fun _ _ _ h => h) (Or.inl ⟨by rfl, ?_⟩) (by assumption) ?_
  rotate_left
  · intro w hSw
    try dsimp only at hSw
    go_simp
    first | done | with_reducible rfl
  try simp only [Act.put, List.setIfInBounds_toArray, List.set_cons_zero, List.set_cons_succ]
  refine wpAnyH_take (i := 8) (oi := { dst := some 82, op := Op.move (Operand.tmp 11), type := 4, pos := "law.go:114", after := #[{ on := 7, ground := Ground.guard }], guard := some (7, false) }) (v := ?_) rfl (by kernel_rfl) (by kernel_rfl) (by kernel_rfl) (fun _ _ _ h => h) (Or.inl ⟨by rfl, ?_⟩) (by assumption) ?_
  rotate_left
  · intro w hSw
    try dsimp only at hSw
    go_simp
    first | done | with_reducible rfl
  try simp only [Act.put, List.setIfInBounds_toArray, List.set_cons_zero, List.set_cons_succ]
  refine wpAnyH_take (i := 9) (oi := { dst := some 83, op := Op.unOp UnOp.not 4 (Operand.tmp 82), type := 4, pos := "law.go:114", after := #[{ on := 8, ground := Ground.data }, { on := 7, ground := Ground.guard }], guard := some (7, false) }) (v := ?_) rfl (by kernel_rfl) (by kernel_rfl) (by kernel_rfl) (fun _ _ _ h => h) (Or.inl ⟨by rfl, ?_⟩) (by assumption) ?_
  rotate_left
  · intro w hSw
    try dsimp only at hSw
    go_simp
    first | done | with_reducible rfl
  try simp only [Act.put, List.setIfInBounds_toArray, List.set_cons_zero, List.set_cons_succ]
  refine wpAnyH_take (i := 10) (oi := { dst := some 84, op := Op.pick (Operand.tmp 81) (Operand.const (Value.bool true)) (Operand.tmp 83), type := 4, pos := "law.go:114", after := #[{ on := 7, ground := Ground.data }, { on := 9, ground := Ground.data }], guard := none }) (v := ?_) rfl (by kernel_rfl) (by kernel_rfl) (by kernel_rfl) (fun _ _ _ h => h) (Or.inl ⟨by rfl, ?_⟩) (by assumption) ?_
  rotate_left
  · intro w hSw
    try dsimp only at hSw
    go_simp
    first | done | with_reducible rfl
  try simp only [Act.put, List.setIfInBounds_toArray, List.set_cons_zero, List.set_cons_succ]
  refine wpAnyH_take (i := 11) (oi := { dst := some 85, op := Op.move (Operand.tmp 84), type := 4, pos := "law.go:114", after := #[{ on := 10, ground := Ground.data }, { on := 7, ground := Ground.chain }], guard := none }) (v := ?_) rfl (by kernel_rfl) (by kernel_rfl) (by kernel_rfl) (fun _ _ _ h => h) (Or.inl ⟨by rfl, ?_⟩) (by assumption) ?_
  rotate_left
  · intro w hSw
    try dsimp only at hSw
    go_simp
    first | done | with_reducible rfl
  try simp only [Act.put, List.setIfInBounds_toArray, List.set_cons_zero, List.set_cons_succ]
  refine wpAnyH_take (i := 12) (oi := { dst := some 86, op := Op.move (Operand.tmp 0), type := 25, pos := "law.go:114", after := #[{ on := 11, ground := Ground.guard }], guard := some (11, false) }) (v := ?_) rfl (by kernel_rfl) (by kernel_rfl) (by kernel_rfl) (fun _ _ _ h => h) (Or.inl ⟨by rfl, ?_⟩) (by assumption) ?_
  rotate_left
  · intro w hSw
    try dsimp only at hSw
    go_simp
    first | done | with_reducible rfl
  try simp only [Act.put, List.setIfInBounds_toArray, List.set_cons_zero, List.set_cons_succ]
  refine wpAnyH_take (i := 13) (oi := { dst := some 87, op := Op.fieldAddr 33 (Operand.tmp 5) 2, type := 0, pos := "law.go:114", after := #[{ on := 11, ground := Ground.guard }], guard := some (11, false) }) (v := ?_) rfl (by kernel_rfl) (by kernel_rfl) (by kernel_rfl) (fun _ _ _ h => h) (Or.inl ⟨by rfl, ?_⟩) (by assumption) ?_
  rotate_left
  · intro w hSw
    try dsimp only at hSw
    go_simp
    first | done | with_reducible rfl
  try simp only [Act.put, List.setIfInBounds_toArray, List.set_cons_zero, List.set_cons_succ]
  refine wpAnyH_take (i := 14) (oi := { dst := some 88, op := Op.load 27 (Operand.tmp 87), type := 27, pos := "law.go:114", after := #[{ on := 13, ground := Ground.data }, { on := 11, ground := Ground.guard }], guard := some (11, false) }) (v := ?_) rfl (by kernel_rfl) (by kernel_rfl) (by kernel_rfl) (fun _ _ _ h => h) (Or.inl ⟨by rfl, ?_⟩) (by assumption) ?_
  rotate_left
  · intro w hSw
    try dsimp only at hSw
    go_simp
    first | done | with_reducible rfl
  try simp only [Act.put, List.setIfInBounds_toArray, List.set_cons_zero, List.set_cons_succ]
  refine wpAnyH_take (i := 15) (oi := { dst := some 89, op := Op.move (Operand.tmp 9), type := 3, pos := "law.go:114", after := #[{ on := 11, ground := Ground.guard }], guard := some (11, false) }) (v := ?_) rfl (by kernel_rfl) (by kernel_rfl) (by kernel_rfl) (fun _ _ _ h => h) (Or.inl ⟨by rfl, ?_⟩) (by assumption) ?_
  rotate_left
  · intro w hSw
    try dsimp only at hSw
    go_simp
    first | done | with_reducible rfl
  try simp only [Act.put, List.setIfInBounds_toArray, List.set_cons_zero, List.set_cons_succ]
  refine wpAnyH_take (i := 16) (oi := { dst := some 90, op := Op.indexAddr 27 (Operand.tmp 88) (Operand.tmp 89), type := 0, pos := "law.go:114", after := #[{ on := 14, ground := Ground.data }, { on := 15, ground := Ground.data }, { on := 11, ground := Ground.guard }], guard := some (11, false) }) (v := ?_) rfl (by kernel_rfl) (by kernel_rfl) (by kernel_rfl) (fun _ _ _ h => h) (Or.inl ⟨by rfl, ?_⟩) (by assumption) ?_
  rotate_left
  · intro w hSw
    try dsimp only at hSw
    go_simp
    first | done | with_reducible rfl
  try simp only [Act.put, List.setIfInBounds_toArray, List.set_cons_zero, List.set_cons_succ]
  refine wpAnyH_take (i := 17) (oi := { dst := some 91, op := Op.load 9 (Operand.tmp 90), type := 9, pos := "law.go:114", after := #[{ on := 16, ground := Ground.data }, { on := 11, ground := Ground.guard }], guard := some (11, false) }) (v := ?_) rfl (by kernel_rfl) (by kernel_rfl) (by kernel_rfl) (fun _ _ _ h => h) (Or.inl ⟨by rfl, ?_⟩) (by assumption) ?_
  rotate_left
  · intro w hSw
    try dsimp only at hSw
    go_simp
    first | done | with_reducible rfl
  try simp only [Act.put, List.setIfInBounds_toArray, List.set_cons_zero, List.set_cons_succ]
  refine wpAnyH_take (i := 19) (oi := { dst := some 93, op := Op.fieldAddr 33 (Operand.tmp 5) 4, type := 0, pos := "law.go:114", after := #[{ on := 11, ground := Ground.guard }], guard := some (11, false) }) (v := ?_) rfl (by kernel_rfl) (by kernel_rfl) (by kernel_rfl) (fun _ _ _ h => h) (Or.inl ⟨by rfl, ?_⟩) (by assumption) ?_
  rotate_left
  · intro w hSw
    try dsimp only at hSw
    go_simp
    first | done | with_reducible rfl
  try simp only [Act.put, List.setIfInBounds_toArray, List.set_cons_zero, List.set_cons_succ]
  refine wpAnyH_take (i := 20) (oi := { dst := some 94, op := Op.load 29 (Operand.tmp 93), type := 29, pos := "law.go:114", after := #[{ on := 19, ground := Ground.data }, { on := 11, ground := Ground.guard }], guard := some (11, false) }) (v := ?_) rfl (by kernel_rfl) (by kernel_rfl) (by kernel_rfl) (fun _ _ _ h => h) (Or.inl ⟨by rfl, ?_⟩) (by assumption) ?_
  rotate_left
  · intro w hSw
    try dsimp only at hSw
    go_simp
    first | done | with_reducible rfl
  try simp only [Act.put, List.setIfInBounds_toArray, List.set_cons_zero, List.set_cons_succ]
  refine wpAnyH_take (i := 21) (oi := { dst := some 95, op := Op.move (Operand.tmp 9), type := 3, pos := "law.go:114", after := #[{ on := 11, ground := Ground.guard }], guard := some (11, false) }) (v := ?_) rfl (by kernel_rfl) (by kernel_rfl) (by kernel_rfl) (fun _ _ _ h => h) (Or.inl ⟨by rfl, ?_⟩) (by assumption) ?_
  rotate_left
  · intro w hSw
    try dsimp only at hSw
    go_simp
    first | done | with_reducible rfl
  try simp only [Act.put, List.setIfInBounds_toArray, List.set_cons_zero, List.set_cons_succ]
  refine wpAnyH_take (i := 22) (oi := { dst := some 96, op := Op.indexAddr 29 (Operand.tmp 94) (Operand.tmp 95), type := 0, pos := "law.go:114", after := #[{ on := 20, ground := Ground.data }, { on := 21, ground := Ground.data }, { on := 11, ground := Ground.guard }], guard := some (11, false) }) (v := ?_) rfl (by kernel_rfl) (by kernel_rfl) (by kernel_rfl) (fun _ _ _ h => h) (Or.inl ⟨by rfl, ?_⟩) (by assumption) ?_
  rotate_left
  · intro w hSw
    try dsimp only at hSw
    go_simp
    first | done | with_reducible rfl
  try simp only [Act.put, List.setIfInBounds_toArray, List.set_cons_zero, List.set_cons_succ]
  refine wpAnyH_take (i := 23) (oi := { dst := some 97, op := Op.load 4 (Operand.tmp 96), type := 4, pos := "law.go:114", after := #[{ on := 22, ground := Ground.data }, { on := 11, ground := Ground.guard }], guard := some (11, false) }) (v := ?_) rfl (by kernel_rfl) (by kernel_rfl) (by kernel_rfl) (fun _ _ _ h => h) (Or.inl ⟨by rfl, ?_⟩) (by assumption) ?_
  rotate_left
  · intro w hSw
    try dsimp only at hSw
    go_simp
    first | done | with_reducible rfl
  try simp only [Act.put, List.setIfInBounds_toArray, List.set_cons_zero, List.set_cons_succ]
  refine wpAnyH_ready (rs := [18]) (by kernel_rfl) (by simp) ?_
  refine AllReadyH.cons (o := { dst := some 92, op := Op.call { callee := Callee.value (Operand.func 28), args := #[Operand.tmp 86, Operand.tmp 91], argTypes := #[25, 9] }, type := 4, pos := "law.go:114", after := #[{ on := 12, ground := Ground.data }, { on := 17, ground := Ground.data }, { on := 11, ground := Ground.chain }, { on := 11, ground := Ground.guard }], guard := some (11, false) }) rfl (fun K hK => ?_) AllReadyH.nil
  go_simp
  (go_at_call 28; refine (HLV.out _ (and11 (by assumption))).mono ?_; rintro o w2 ⟨rfl, hbx⟩)
  try go_wp2_with fail
  refine hK.out _ _ ?_ (fun hHeld => ?_)
  · first | assumption | exact HC.out _ (Below.trans (and11 (by assumption)) (hbx.mono (Below.size (and11 (by assumption)))))
  clear hK K
  try simp only [Act.put, List.setIfInBounds_toArray, List.set_cons_zero, List.set_cons_succ]
  refine wpAnyH_take (i := 24) (oi := { dst := some 98, op := Op.binOp BinOp.neq 4 (Operand.tmp 92) (Operand.tmp 97) 4, type := 4, pos := "law.go:114", after := #[{ on := 18, ground := Ground.data }, { on := 23, ground := Ground.data }, { on := 11, ground := Ground.guard }], guard := some (11, false) }) (v := ?_) rfl (by kernel_rfl) (by kernel_rfl) (by kernel_rfl) (fun _ _ _ h => h) (Or.inl ⟨by rfl, ?_⟩) (by assumption) ?_
  rotate_left
  · intro w hSw
    try dsimp only at hSw
    go_simp
    first | done | with_reducible rfl
  try simp only [Act.put, List.setIfInBounds_toArray, List.set_cons_zero, List.set_cons_succ]
  refine wpAnyH_take (i := 25) (oi := { dst := some 99, op := Op.pick (Operand.tmp 85) (Operand.const (Value.bool true)) (Operand.tmp 98), type := 4, pos := "law.go:114", after := #[{ on := 11, ground := Ground.data }, { on := 24, ground := Ground.data }], guard := none }) (v := ?_) rfl (by kernel_rfl) (by kernel_rfl) (by kernel_rfl) (fun _ _ _ h => h) (Or.inl ⟨by rfl, ?_⟩) (by assumption) ?_
  rotate_left
  · intro w hSw
    try dsimp only at hSw
    go_simp
    first | done | with_reducible rfl
  try simp only [Act.put, List.setIfInBounds_toArray, List.set_cons_zero, List.set_cons_succ]
  refine wpAnyH_done (by kernel_rfl) ?_ _
  all_goals (
    go_wp2_with fail
    apply HKK.out
    exact and11 (by assumption))
end Go.Proofs.YtmlkpfkeeifgeaaDoor
namespace Go.Proofs.YtmlkpfkeeifgeaaDoor
open Go.ChangeShapes Go.WideShapes Go.ChangeAt Go.RowKit Go.Joins Go.Deep

set_option maxHeartbeats 8000000 in
set_option maxRecDepth 100000 in
theorem like_w {w : World} {AF A : Nat → Prop} {f : Nat} {e gd : Int} {a b c x y z : Sl} {s : Fl} (hF : FA w AF f e gd s) (hR : RL6 w A a b c x y z s) (hW : W s) (he : e ≤ 1000) (hlen : s.H.length ≤ 1600) (q : ByteArray) (now : Int) :
    Calls Tryd.prog 17 #[.pointer (some ⟨f, 0, none⟩), .agg #[.int .i64 e, .int .i64 gd, .slice a.a a.n a.c, .slice b.a b.n b.c, .slice c.a c.n c.c, .slice x.a x.n x.c, .slice y.a y.n y.c, .slice z.a z.n z.c], .string q, .int .i64 now] w fun o w' => o = .returned (.bool true) ∧ Below w.heap.size w w' := by
  obtain ⟨aa, an, ak⟩ := a
  obtain ⟨ba, bn, bq⟩ := b
  obtain ⟨ca, cn, ck⟩ := c
  have HN : Hid (an = s.H.length ∧ bn = s.H.length ∧ cn = s.H.length) := hR.lens
  have han : an ≤ 1600 := by have := HN.out.1; omega
  dsimp only
  obtain ⟨w1, hw1⟩ : ∃ w1, w1 = w.alloc (.cells #[.int .i64 e, .int .i64 gd, .slice aa an ak, .slice ba bn bq, .slice ca cn ck, .slice x.a x.n x.c, .slice y.a y.n y.c, .slice z.a z.n z.c] 33) := ⟨_, rfl⟩
  have hb1 : Below w.heap.size w w1 := by rw [hw1]; exact (Below.refl _ w).alloc (Nat.le_refl _) _
  have hq1 : w1.heap[w.heap.size]? = some (.cells #[.int .i64 e, .int .i64 gd, .slice aa an ak, .slice ba bn bq, .slice ca cn ck, .slice x.a x.n x.c, .slice y.a y.n y.c, .slice z.a z.n z.c] 33 (0, 0)) := by rw [hw1]; exact heap_alloc_new w _
  have hs1 : w.heap.size < w1.heap.size := by rw [hw1]; simp
  have HF1 : Hid (FA w1 AF f e gd s) := hF.below hb1
  have HR1 : Hid (RL6 w1 A ⟨aa, an, ak⟩ ⟨ba, bn, bq⟩ ⟨ca, cn, ck⟩ x y z s) := hR.below hb1 (fun _ hk => hk)
  have HB1 := Hid.mk' hb1
  have HQ1 := Hid.mk' hq1
  have HWs := Hid.mk' hW
  have hm := hW.few3.2
  clear hF hR hW hb1 hq1
  go_enter Tryd.func17, Tryd.ntmps17
  go_upto_region 1 with fail
  rw [← hw1]
  clear hw1
  refine reg1 w1 HF1.out HR1.out hs1 HQ1.out he (by omega) (by omega) ?_
  iterate 42 intro _
  intro w2 hb2
  have HB2 := Hid.mk' hb2
  have HS1 := Hid.mk' hs1
  clear hb2 hs1 hm
  go_wp2_with fail
  go_loopw [9] (fun v9 wr => ∃ i : Nat, v9 = .int .i64 i ∧ i ≤ an ∧ Below w1.heap.size w1 wr) (fun v9 _ => an + 1 - (intOf v9).toNat)
  case atStart => exact ⟨0, rfl, Nat.zero_le _, HB2.out⟩
  case round =>
    obtain ⟨i, rfl, hi1, hbr⟩ := hrel
    have HBr := Hid.mk' hbr
    have hq2 := (hbr.block w.heap.size HS1.out).trans HQ1.out
    obtain ⟨c0, c1, c2, c3, c4, c5, c6, c7⟩ := blk8 hq2
    by_cases hc : i < an
    · have hi : i < s.H.length := by have := HN.out.1; omega
      obtain ⟨-, a1, o1, e1, -⟩ := HR1.out.nmi hi
      obtain ⟨hib, q2, p2, e2, -⟩ := HR1.out.sti hi
      obtain ⟨hic, r2, p3, e3, -⟩ := HR1.out.lvi hi
      obtain rfl : aa = some ⟨a1, o1, none⟩ := e1
      obtain rfl : ba = some ⟨q2, p2, none⟩ := e2
      obtain rfl : ca = some ⟨r2, p3, none⟩ := e3
      dsimp only at hib hic
      obtain ⟨X, hX⟩ : ∃ X, X = (atH s.H i).nm := ⟨_, rfl⟩
      obtain ⟨t, ht⟩ : ∃ t, t = (atH s.H i).st := ⟨_, rfl⟩
      obtain ⟨v, hv⟩ : ∃ v, v = (atH s.H i).lv := ⟨_, rfl⟩
      have hXin : isH X s.H = true := by
        rw [hX, isH_iff, atH_eq hi]
        exact List.mem_map_of_mem (List.getElem_mem hi)
      have hpx : plN X s.H = i := by
        have := fidx_nodup HWs.out.nodup i (by rw [hn_length]; exact hi)
        rw [hn_getD, ← hX] at this
        exact this
      have hst : stF X s.H = t := by unfold stF; rw [if_pos hXin]; unfold ofN; rw [hpx, ht]
      have hlv : lvF X s.H = v := by unfold lvF; rw [hXin]; unfold ofN; rw [hpx, hv]; rfl
      have HCX : Hid (∀ w', Below w1.heap.size w1 w' → w'.cell? ⟨w.heap.size, 0, none⟩ = some (.int .i64 e) ∧ w'.cell? ⟨w.heap.size, 1, none⟩ = some (.int .i64 gd) ∧ w'.cell? ⟨w.heap.size, 2, none⟩ = some (.slice (some ⟨a1, o1, none⟩)  an  ak) ∧ w'.cell? ⟨w.heap.size, 3, none⟩ = some (.slice (some ⟨q2, p2, none⟩)  bn  bq) ∧ w'.cell? ⟨w.heap.size, 4, none⟩ = some (.slice (some ⟨r2, p3, none⟩)  cn  ck) ∧ w'.cell? ⟨w.heap.size, 5, none⟩ = some (.slice x.a x.n x.c) ∧ w'.cell? ⟨w.heap.size, 6, none⟩ = some (.slice y.a y.n y.c) ∧ w'.cell? ⟨w.heap.size, 7, none⟩ = some (.slice z.a z.n z.c) ∧ w'.cell? ⟨a1, o1 + i, none⟩ = some (.string X) ∧ w'.cell? ⟨q2, p2 + i, none⟩ = some (.int .i64 t) ∧ w'.cell? ⟨r2, p3 + i, none⟩ = some (.bool v)) := fun w' hb => by
        obtain ⟨y0, y1, y2, y3, y4, y5, y6, y7⟩ := blk8 ((hb.block w.heap.size HS1.out).trans HQ1.out)
        have hr := HR1.out.below hb (fun _ hk => hk) (B := A)
        obtain ⟨-, b1', o1', e1', x1⟩ := hr.nmi hi
        cases e1'
        obtain ⟨x2, -, -⟩ := hr.stk hi
        obtain ⟨x3, -, -⟩ := hr.lvk hi
        rw [hX, ht, hv]
        exact ⟨y0, y1, y2, y3, y4, y5, y6, y7, x1, x2, x3⟩
      have HST := Hid.mk' (fstate_w (HF1.out.below hbr) X)
      rw [hst, hXin] at HST
      have HLV : Hid (∀ w', Below w1.heap.size w1 w' → Calls Tryd.prog 28 #[.pointer (some ⟨f, 0, none⟩), .string X] w' fun o w'' => o = .returned (.bool v) ∧ Below w'.heap.size w' w'') := fun w' hb => by
        have := fleaves_w (HF1.out.below hb) X
        rw [hlv] at this
        exact this
      obtain ⟨-, -, -, -, -, -, -, -, x1, -, -⟩ := HCX.out wr hbr
      have hia' : (i : Int) < (an : Int) := by omega
      clear hX ht hv hXin hpx hst hlv hq2 hbr hi
      go_upto_region 7 with (go_at_call 27; refine HST.out.mono ?_; rintro o w5 ⟨rfl, hb5⟩)
      have HB5 : Hid (Below w1.heap.size w1 w5) := HBr.out.trans (hb5.mono HBr.out.size)
      clear c0 c1 c2 c3 c4 c5 c6 c7 x1 hb5
      refine reg7 w5 (a1 := a1) (o1 := o1) (ak := ak) (q2 := q2) (p2 := p2) (bk := bq) (r2 := r2) (p3 := p3) (ck := ck) (e := e) (gd := gd) (x := x) (y := y) (z := z) (fun w' hb => ?_) hc hib hic (fun w' hb => HLV.out w' (HB5.out.trans (hb.mono HB5.out.size))) ?_
      · obtain ⟨y0, y1, y2, y3, y4, y5, y6, y7, x1, x2, x3⟩ := HCX.out w' (HB5.out.trans (hb.mono HB5.out.size))
        exact ⟨y0, y1, y2, y3, y4, y5, y6, y7, x1, x2, x3, hb⟩
      iterate 25 intro _
      intro w6 hb6
      have HB6 : Hid (Below w1.heap.size w1 w6) := HB5.out.trans (hb6.mono HB5.out.size)
      clear hb6 HCX HST HLV
      go_wp2_with fail
      exact ⟨⟨i + 1, by simp, by omega, HB6.out⟩, by simp [intOf]; omega⟩
    · obtain rfl : an = i := by omega
      have HFr : Hid (∀ w', Below wr.heap.size wr w' → FA w' AF f e gd s) := fun w' hb => HF1.out.below (hbr.trans (hb.mono hbr.size))
      have HRr : Hid (∀ w', Below wr.heap.size wr w' → RL6 w' A ⟨aa, an, ak⟩ ⟨ba, bn, bq⟩ ⟨ca, cn, ck⟩ x y z s) := fun w' hb => HR1.out.below (hbr.trans (hb.mono hbr.size)) (fun _ hk => hk)
      have HQr : Hid (∀ w', Below wr.heap.size wr w' → w'.heap[w.heap.size]? = some (.cells #[.int .i64 e, .int .i64 gd, .slice aa an ak, .slice ba bn bq, .slice ca cn ck, .slice x.a x.n x.c, .slice y.a y.n y.c, .slice z.a z.n z.c] 33 (0, 0))) := fun w' hb => (hb.block w.heap.size (Nat.lt_of_lt_of_le HS1.out hbr.size)).trans hq2
      have HST := Hid.mk' (fstate_w (HFr.out wr (Below.refl _ _)) q)
      clear hq2 hbr hc hi1
      cases hh : isH q s.H with
      | true =>
        rw [hh] at HST
        have HPQ := Hid.mk' (pl_yes hh).1
        generalize stF q s.H = T at *
        generalize plN q s.H = k at *
        clear hh
        go_upto_region 10 with (go_at_call 27; refine HST.out.mono ?_; rintro o w5 ⟨rfl, hb5⟩)
        have HAT := rat_x e gd (HRr.out w5 hb5) q
        rw [HPQ.out] at HAT
        have HAT := Hid.mk' HAT
        have hq2 := HQr.out w5 hb5
        clear c0 c1 c2 c3 c4 c5 c6 c7
        obtain ⟨c0, c1, c2, c3, c4, c5, c6, c7⟩ := blk8 hq2
        clear hq2
        go_wp2_with (go_at_call 50; refine HAT.out.mono ?_; rintro o w6 ⟨rfl, hb6⟩)
        go_ret
        exact ⟨rfl, HB1.out.trans ((HBr.out.trans ((hb5.trans (hb6.mono hb5.size)).mono HBr.out.size)).mono HB1.out.size)⟩
      | false =>
        rw [hh] at HST
        have HPQ := Hid.mk' (pl_no hh)
        have HLF : Hid (∀ w', Below wr.heap.size wr w' → Calls Tryd.prog 28 #[.pointer (some ⟨f, 0, none⟩), .string q] w' fun o w'' => o = .returned (.bool false) ∧ Below w'.heap.size w' w'') := fun w' hb => by
          have := fleaves_w (HFr.out w' hb) q
          have e1 : lvF q s.H = false := by unfold lvF; rw [hh]; rfl
          rw [e1] at this
          exact this
        generalize stF q s.H = T at *
        clear hh
        go_upto_region 10 with (go_at_call 27; refine HST.out.mono ?_; rintro o w5 ⟨rfl, hb5⟩)
        have HAT := rat_x e gd (HRr.out w5 hb5) q
        rw [HPQ.out] at HAT
        have HAT := Hid.mk' HAT
        have hq2 := HQr.out w5 hb5
        clear c0 c1 c2 c3 c4 c5 c6 c7
        obtain ⟨c0, c1, c2, c3, c4, c5, c6, c7⟩ := blk8 hq2
        clear hq2
        go_wp2_with (first
          | (go_at_call 50; refine HAT.out.mono ?_; rintro o w6 ⟨rfl, hb6⟩; have hlf := HLF.out w6 (hb5.trans (hb6.mono hb5.size)))
          | (go_at_call 28; refine hlf.mono ?_; rintro o w7 ⟨rfl, hb7⟩))
        go_ret
        exact ⟨rfl, HB1.out.trans ((HBr.out.trans (((hb5.trans (hb6.mono hb5.size)).trans (hb7.mono (Nat.le_trans hb5.size hb6.size))).mono HBr.out.size)).mono HB1.out.size)⟩
end Go.Proofs.YtmlkpfkeeifgeaaDoor
