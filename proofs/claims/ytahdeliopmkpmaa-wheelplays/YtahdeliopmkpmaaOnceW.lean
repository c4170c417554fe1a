/-
  WheelOnce's walk: each key that is set, and not cancelled, is due once, at the first tick asked that isn't below its deadline. Conditions: the slices lie where they are said to lie.
-/
import Derived.Test.YtahdeliopmkpmaaOnceP
import Derived.Test.YtahdeliopmkpmaaNextW
import Derived.Test.YtahdeliopmkpmaaOpens
import Derived.Deep.CutRange
namespace Go.Proofs.Ytahdeliopmkpmaa
open Go.ChangeShapes Go.WideShapes Go.ChangeAt Go.RowKit Go.Maps

theorem BoolsAt.keep2 {w w' : World} {A : Nat → Prop} {a : Option Addr} {len cap : Nat} {zs : List Bool} (h : BoolsAt w a len cap zs) (hk : Keep A w w') (hA : ∀ k, k < w.heap.size → A k) : BoolsAt w' a len cap zs := by
  refine ⟨h.hlen, h.hle, h.hcap, fun j hj => ?_⟩
  obtain ⟨b, off, e, hlt, hc⟩ := h.at_ j hj
  exact ⟨b, off, e, Nat.lt_of_lt_of_le hlt hk.size, hk.cell hc (hA _ hlt)⟩

theorem um_bd (m z : Int) (h0 : 0 < m) (h1 : m ≤ 1000) : 0 ≤ wrap64 ((IntKind.u64.wrap z).tmod m) ∧ wrap64 ((IntKind.u64.wrap z).tmod m) < m := by
  have e : IntKind.u64.wrap z = z % 18446744073709551616 := by simp [IntKind.wrap, IntKind.signed, IntKind.bits]
  have hnn : 0 ≤ z % 18446744073709551616 := Int.emod_nonneg _ (by decide)
  rw [e, Int.tmod_eq_emod_of_nonneg hnn]
  have a1 := Int.emod_nonneg (z % 18446744073709551616) (show m ≠ 0 by omega)
  have a2 := Int.emod_lt_of_pos (z % 18446744073709551616) h0
  generalize z % 18446744073709551616 % m = y at a1 a2
  have e2 : wrap64 y = y := by
    unfold wrap64
    omega
  rw [e2]
  exact ⟨a1, a2⟩

theorem delR_twice (R : List (Int × Int)) (k : Int) : hasR (delR R k) k = false ∧ delR (delR R k) k = delR R k :=
  ⟨hasR_not.2 (delR_not R k), List.filter_eq_self.2 (fun x hx => by simpa using delR_not R k x hx)⟩

theorem set_neg {os : List Int} {i : Nat} (h : ∀ x ∈ os, -1 ≤ x ∧ x ≤ 99) : ∀ x ∈ os.set i (-1), -1 ≤ x ∧ x ≤ 99 := by
  intro x hx
  rcases List.mem_or_eq_of_mem_set hx with h1 | h1
  · exact h x h1
  · subst h1; omega

/-- A cell of the row is written. -/
theorem WAt.stored {w : World} {g : Nat} {A : Nat → Prop} {b n c i : Nat} {R : List (Int × Int)} (h : WAt w (Av A (.slice (some ⟨b, 0, none⟩) n c)) g R) (v : Value) : WAt (w.setCell ⟨b, i, none⟩ v) (Av A (.slice (some ⟨b, 0, none⟩) n c)) g R :=
  (h.others ((Keep.refl _ w).setCell (fun hn => hn (.inr rfl)) _)).fewer (fun _ h => .inl h)

theorem WAt.appended {w w3 : World} {g : Nat} {v v' : Value} {R : List (Int × Int)} {o : Obj} {n m : Nat} {xs ys : List Value} (h : WAt w (Av (fun k => k < g) v) g R) (hv : w.ownsRow g 3 1 v n xs) (hown : w3.ownsRow g 3 1 v' m ys)
    (hgr : (w.alloc o).grownBy w3 v.ownBlock) (hloc : v'.ownBlock = v.ownBlock ∨ v'.ownBlock = some (w.alloc o).heap.size) : WAt w3 (Av (fun k => k < g) v') g R ∧ Keep (fun k => k < g) w w3 := by
  have hsz := hgr.size
  have hkk : Keep (fun k => ¬ Av (fun k => k < g) v k) w w3 := ((Keep.refl _ w).alloc o).trans (keep_grown hgr (fun k hk hn => hn (.inr hk)))
  have hw3 := h.others hkk
  have hlt : ∀ k, v'.ownBlock = some k → k < w3.heap.size := fun k hk => (hown.lt k hk).2
  refine ⟨hw3.fewer ?_, ((Keep.refl _ w).alloc o).trans (keep_grown hgr (fun k hk hA => ?_))⟩
  · rintro k (h1 | h1)
    · exact .inl (.inl h1)
    · rcases hloc with e1 | e1
      · exact .inl (.inr (e1 ▸ h1))
      · rw [e1] at h1
        cases h1
        refine .inr ⟨by simp, hlt _ e1⟩
  · have h1 := (hv.lt k hk).1
    omega

set_option maxHeartbeats 4000000 in
set_option maxRecDepth 100000 in
theorem once_walk (a : Option Addr) (len cap : Nat) (zs : List Int) (a' : Option Addr) (len' cap' : Nat) (bs : List Bool) (a'' : Option Addr) (len'' cap'' : Nat) (ts : List Int) (w : World) (hz : IntsAt w a len cap zs) (hb : BoolsAt w a' len' cap' bs) (ht : IntsAt w a'' len'' cap'' ts) :
    Calls Try.prog 4 #[.slice a len cap, .slice a' len' cap', .slice a'' len'' cap''] w fun e w' => e = .returned (.bool true) ∧ Below w.heap.size w w' := by
  have l1 := hz.hle
  have c1 := hz.hcap
  have l2 := hb.hle
  have c2 := hb.hcap
  have l3 := ht.hle
  have c3 := ht.hcap
  unfold maxLen at c1 c2 c3
  obtain ⟨ti, hi, hz0, hz1, hz2⟩ := info_parts info3
  go_enter Try.func4, Try.ntmps4
  go_wp2_with fail
  refine (lives_any _).mono ?_
  rintro e w1 ⟨rfl, hb1⟩
  go_wp2_with fail
  refine (new_w w1).mono ?_
  rintro e w2 ⟨rfl, hW2, hb2, hz2'⟩
  have hk12 : Keep (fun k => k < w1.heap.size) w1 w2 := keep_below hb2
  have HZ : Hid (IntsAt w1 a len cap zs) := hz.below hb1
  have HBo : Hid (BoolsAt w1 a' len' cap' bs) := hb.keep2 (keep_below hb1 (A := fun _ => True)) (fun _ _ => trivial)
  have HT : Hid (IntsAt w1 a'' len'' cap'' ts) := ht.below hb1
  have HB : Hid (Below w.heap.size w w1) := hb1
  clear hz hb ht hb1 hb2 hz2'
  generalize hg : w1.heap.size = g at *
  have HG : Hid (w1.heap.size = g) := hg
  clear hg
  obtain ⟨n, hn⟩ : ∃ n, min len 30 = n := ⟨_, rfl⟩
  have hn2 : min (len : Int) 30 = (n : Int) := by omega
  have hn3 : n ≤ 30 := by omega
  have hn4 : n ≤ len := by omega
  have HN : Hid (min len 30 = n) := hn
  clear hn
  go_wp2
  go_loopw [8, 9] (fun v vi wr => ∃ (i : Nat) (os : List Int), vi = .int .i64 i ∧ i ≤ n ∧ os.length = i ∧ (∀ x ∈ os, 0 ≤ x ∧ x ≤ 99) ∧ wr.ownsRow g 3 1 v i (ic os) ∧ WAt wr (Av (fun k => k < g) v) g (remR os (-1)) ∧ Keep (fun k => k < g) w1 wr) (fun _ vi _ => n - (intOf vi).toNat)
  case atStart => exact ⟨0, [], rfl, Nat.zero_le _, rfl, by simp, World.ownsRow_nil _ _ _ _, hW2.fewer (fun k hk => by rcases hk with h1 | h1; exact h1; simp [Value.ownBlock] at h1), hk12⟩
  case round =>
    obtain ⟨i, os, rfl, hi1, hol, hob, hown, hW, hkr⟩ := hrel
    have hgs : g ≤ wr.heap.size := by have := hkr.size; have := HG.out; omega
    by_cases hc : i < n
    · have hzr := HZ.out.keep2 hkr (fun k hk => by rw [HG.out] at hk; exact hk)
      obtain ⟨b, off, rfl, hlt, hcell⟩ := hzr.at_ i (by omega)
      generalize zs.getD i 0 = z at hcell
      clear hzr
      obtain ⟨x, hx⟩ : ∃ x, wrap64 ((IntKind.u64.wrap z).tmod 100) = x := ⟨_, rfl⟩
      have hxb := um_bd 100 z (by decide) (by decide)
      rw [hx] at hxb
      obtain ⟨hx0, hx1⟩ := hxb
      have HST : Hid (os.length = i ∧ (∀ x ∈ os, 0 ≤ x ∧ x ≤ 99) ∧ wr.ownsRow g 3 1 u8 i (ic os) ∧ WAt wr (Av (fun k => k < g) u8) g (remR os (-1)) ∧ Keep (fun k => k < g) w1 wr) := ⟨hol, hob, hown, hW, hkr⟩
      clear hol hob hW hkr
      go_wp2_with (at_builtin; refine wpList_append_own_at _ rfl _ _ 26 rfl g 3 ti (.int .i64 0) 1 8 Try.underlying26 hi hz0 hz1 hz2 rfl (by decide) _ i _ rfl (hown.alloc _) ⟨wr.heap.size, 0, none⟩ 1 1 [.int .i64 x] rfl rfl (cell_one_new _ _ _) (int_one x) (by unfold maxLen; omega) (by omega) (by simp; omega) ?_)
      intro v' w3 hown3 hgr3 _ hloc3
      obtain ⟨h1, h2, h3, h4, h5⟩ := HST.out
      obtain ⟨hW3, hk3⟩ := h4.appended h3 hown3 hgr3 (by simpa using hloc3)
      have hown4 : w3.ownsRow g 3 1 v' (i + 1) (ic (os ++ [x])) := by simpa [ic] using hown3
      obtain ⟨a4, c4, rfl, hi4, hb4⟩ := owns_ints hown4
      obtain ⟨b4, o4, rfl, hl4, hc4⟩ := hi4.at_ i (by omega)
      have hg4 : (os ++ [x]).getD i 0 = x := by rw [← h1]; simp [List.getD_eq_getElem?_getD]
      rw [hg4] at hc4
      obtain ⟨hset, hhas⟩ := remR_set (os := os) hx0
      rw [h1] at hset hhas
      have hsetw := set_w w3 _ g _ (i : Int) x (wf_nat (by omega)) (by have := h4.few; have := (List.length_filter_le (fun x : Int × Int => decide (-1 < x.2)) ((List.range os.length).map (fun j : Nat => ((j : Int), os.getD j 0)))); unfold remR; simp at this ⊢; omega) hW3
      rw [cut_mid hx0 (by omega), hset, hhas] at hsetw
      have HS4 : Hid (os.length = i ∧ (∀ x ∈ os, 0 ≤ x ∧ x ≤ 99) ∧ w3.ownsRow g 3 1 (.slice (some ⟨b4, o4, none⟩) (i + 1) c4) (i + 1) (ic (os ++ [x])) ∧ Keep (fun k => k < g) w1 w3) := ⟨h1, h2, hown4, h5.trans hk3⟩
      have hc4le := hi4.hle
      have hc4m := hi4.hcap
      unfold maxLen at hc4m
      clear h1 h2 h3 h4 h5 hown3 hgr3 hloc3 hW3 hk3 hown4 hi4 hb4 hset hhas hg4 HST hown
      go_wp2_with (first | (go_at_call 14; refine hsetw.mono ?_; rintro e w5 ⟨rfl, hW5, hk5⟩))
      obtain ⟨q1, q2, q3, q4⟩ := HS4.out
      refine ⟨⟨i + 1, os ++ [x], by simp, by omega, by simp [q1], ?_, owns_keep q3 hk5 (fun _ h => .inr h), hW5, q4.trans (hk5.mono fun _ _ h => .inl h)⟩, by simp [intOf]; omega⟩
      intro y hy
      rcases List.mem_append.1 hy with hy | hy
      · exact q2 y hy
      · simp at hy; subst hy; omega
    · obtain rfl : n = i := by omega
      obtain ⟨a8, c8, rfl, hi8, hb8⟩ := owns_ints hown
      have h8l := hi8.hle
      have h8c := hi8.hcap
      unfold maxLen at h8c
      have HI : Hid (os.length = n ∧ (∀ x ∈ os, 0 ≤ x ∧ x ≤ 99) ∧ wr.ownsRow g 3 1 (.slice a8 n c8) n (ic os) ∧ WAt wr (Av (fun k => k < g) (.slice a8 n c8)) g (remR os (-1)) ∧ Keep (fun k => k < g) w1 wr) := ⟨hol, hob, hown, hW, hkr⟩
      clear hol hob hown hW hkr hi8 hb8 hc hW2 hk12 HZ
      go_wp2
      go_loopw [10] (fun vi wr => ∃ (i : Nat) (os : List Int), vi = .int .i64 i ∧ i ≤ n ∧ os.length = n ∧ (∀ x ∈ os, -1 ≤ x ∧ x ≤ 99) ∧ (∀ j, i ≤ j → j < n → 0 ≤ os.getD j 0) ∧ wr.ownsRow g 3 1 (.slice a8 n c8) n (ic os) ∧ WAt wr (Av (fun k => k < g) (.slice a8 n c8)) g (remR os (-1)) ∧ Keep (fun k => k < g) w1 wr) (fun vi _ => n - (intOf vi).toNat)
      case atStart =>
        obtain ⟨q1, q2, q3, q4, q5⟩ := HI.out
        refine ⟨0, os, rfl, Nat.zero_le _, q1, fun x hx => ⟨by have := (q2 x hx).1; omega, (q2 x hx).2⟩, fun j _ hj => ?_, q3, q4, q5⟩
        have hj' : j < os.length := by omega
        refine (q2 (os.getD j 0) ?_).1
        rw [List.getD_eq_getElem?_getD, List.getElem?_eq_getElem hj']
        exact List.getElem_mem hj'
      case round =>
        clear HI
        obtain ⟨i, os, rfl, hi1, hol, hob, hpos, hown, hW, hkr⟩ := hrel
        by_cases hc : i < n
        · have hbr := HBo.out.keep2 hkr (fun k hk => by rw [HG.out] at hk; exact hk)
          have HST : Hid (os.length = n ∧ (∀ x ∈ os, -1 ≤ x ∧ x ≤ 99) ∧ (∀ j, i ≤ j → j < n → 0 ≤ os.getD j 0) ∧ wr.ownsRow g 3 1 (.slice a8 n c8) n (ic os) ∧ WAt wr (Av (fun k => k < g) (.slice a8 n c8)) g (remR os (-1)) ∧ Keep (fun k => k < g) w1 wr) := ⟨hol, hob, hpos, hown, hW, hkr⟩
          by_cases hl : i < len'
          · obtain ⟨bb, ob, rfl, _, hcell⟩ := hbr.at_ i hl
            cases hbi : bs.getD i false with
            | false =>
              rw [hbi] at hcell
              clear hol hob hpos hown hW hkr hbr
              go_wp2
              obtain ⟨q1, q2, q3, q4, q5, q6⟩ := HST.out
              exact ⟨⟨i + 1, os, by simp, by omega, q1, q2, fun j hj hjn => q3 j (by omega) hjn, q4, q5, q6⟩, by simp [intOf]; omega⟩
            | true =>
              rw [hbi] at hcell
              obtain ⟨hd1, hh1⟩ := remR_del (os := os) (i := i) (by omega) (hpos i (Nat.le_refl _) hc)
              obtain ⟨hh2, hd2⟩ := delR_twice (remR os (-1)) (i : Int)
              have hca := cancel_w wr _ g _ (i : Int) (wf_nat (by omega)) hW
              rw [hh1] at hca
              rcases hown.2 with ⟨_, h00⟩ | ⟨gk, cp, cur, e8, hbase, hgk, _, _, _, _⟩
              · omega
              · simp only [Value.slice.injEq, true_and] at e8
                obtain ⟨rfl, rfl⟩ := e8
                clear hol hob hpos hown hW hkr hbr hh1
                go_wp2_with fail
                refine hca.mono ?_
                rintro e w4 ⟨rfl, hW4, hk4⟩
                have hcb := cancel_w w4 _ g _ (i : Int) (wf_nat (by omega)) hW4
                rw [hh2, hd2, hd1] at hcb
                clear hca hW4 hh2 hd2
                go_wp2_with fail
                refine hcb.mono ?_
                rintro e w5 ⟨rfl, hW5, hk5⟩
                obtain ⟨q1, q2, q3, q4, q5, q6⟩ := HST.out
                have hk45 := hk4.trans hk5
                have hown5 := owns_keep q4 hk45 (fun _ h => .inr h)
                have hck : ∃ u, w5.cell? ⟨gk, i, none⟩ = some u := by
                  have := hown5.cells (g := gk) rfl i (Value.int .i64 (os.getD i 0)) (by simp [ic, List.getD_eq_getElem?_getD, show i < os.length by omega])
                  rw [show ((⟨gk, 0, none⟩ : Addr).add i) = ⟨gk, i, none⟩ by unfold Addr.add; split <;> simp_all] at this
                  exact ⟨_, this⟩
                obtain ⟨u, hck⟩ := hck
                have hfk := hown5.frozenAt i
                have hst := (hown5.stored i (.int .i64 (-1))).1
                have hst2 : (w5.setCell ⟨gk, i, none⟩ (.int .i64 (-1))).ownsRow g 3 1 (.slice (some ⟨gk, 0, none⟩) n c8) n (ic (os.set i (-1))) := by
                  unfold ic at hst ⊢
                  rw [List.map_set]; exact hst
                have hW6 := hW5.stored (i := i) (.int .i64 (-1))
                have hk6 : Keep (fun k => k < g) wr (w5.setCell ⟨gk, i, none⟩ (.int .i64 (-1))) := (hk45.mono fun _ _ h => .inl h).setCell (by show ¬ gk < g; omega) _
                have HF : Hid ((os.set i (-1)).length = n ∧ (∀ x ∈ os.set i (-1), -1 ≤ x ∧ x ≤ 99) ∧ (∀ j, i + 1 ≤ j → j < n → 0 ≤ (os.set i (-1)).getD j 0) ∧ (w5.setCell ⟨gk, i, none⟩ (.int .i64 (-1))).ownsRow g 3 1 (.slice (some ⟨gk, 0, none⟩) n c8) n (ic (os.set i (-1))) ∧ WAt (w5.setCell ⟨gk, i, none⟩ (.int .i64 (-1))) (Av (fun k => k < g) (.slice (some ⟨gk, 0, none⟩) n c8)) g (remR (os.set i (-1)) (-1)) ∧ Keep (fun k => k < g) w1 (w5.setCell ⟨gk, i, none⟩ (.int .i64 (-1)))) := by
                  refine ⟨by simpa using q1, set_neg q2, fun j hj hjn => ?_, hst2, hW6, q6.trans hk6⟩
                  have := q3 j (by omega) hjn
                  rw [List.getD_eq_getElem?_getD, List.getElem?_set, if_neg (by omega), ← List.getD_eq_getElem?_getD]
                  exact this
                clear hcb hW5 hk4 hk5 hk45 hown5 hst hst2 hW6 hk6 q1 q2 q3 q4 q5 q6 HST hd1 hgk
                go_wp2
                obtain ⟨q1, q2, q3, q4, q5, q6⟩ := HF.out
                exact ⟨⟨i + 1, _, by simp, by omega, q1, q2, q3, q4, q5, q6⟩, by simp [intOf]; omega⟩
          · clear hol hob hpos hown hW hkr hbr
            go_wp2
            obtain ⟨q1, q2, q3, q4, q5, q6⟩ := HST.out
            exact ⟨⟨i + 1, os, by simp, by omega, q1, q2, fun j hj hjn => q3 j (by omega) hjn, q4, q5, q6⟩, by simp [intOf]; omega⟩
        · obtain rfl : n = i := by omega
          have HI : Hid (os.length = n ∧ (∀ x ∈ os, -1 ≤ x ∧ x ≤ 99) ∧ wr.ownsRow g 3 1 (.slice a8 n c8) n (ic os) ∧ WAt wr (Av (fun k => k < g) (.slice a8 n c8)) g (remR os (-1)) ∧ Keep (fun k => k < g) w1 wr) := ⟨hol, hob, hown, hW, hkr⟩
          have HOL : Hid (os.length = n ∧ (∀ x ∈ os, x ≤ 99)) := ⟨hol, fun x hx => (hob x hx).2⟩
          clear hol hob hown hW hkr hc hpos HBo
          go_wp2
          go_loopw [11, 12, 13] (fun vn vl vi wr => ∃ (i : Nat) (now last : Int), vn = .int .i64 now ∧ vl = .int .i64 last ∧ vi = .int .i64 i ∧ i ≤ 30 ∧ i ≤ len'' + 1 ∧ -1 ≤ last ∧ last ≤ now ∧ 0 ≤ now ∧ now ≤ 8 * i + 200 ∧ wr.ownsRow g 3 1 (.slice a8 n c8) n (ic os) ∧ WAt wr (Av (fun k => k < g) (.slice a8 n c8)) g (remR os last) ∧ Keep (fun k => k < g) w1 wr) (fun _ _ vi _ => 30 - (intOf vi).toNat)
          case atStart =>
            obtain ⟨q1, q2, q3, q4, q5⟩ := HI.out
            exact ⟨0, 0, -1, rfl, rfl, rfl, by omega, by omega, by omega, by omega, by omega, by omega, q3, q4, q5⟩
          case round =>
            clear HI
            obtain ⟨i, now, last, rfl, rfl, rfl, hi1, hi2, hl1, hl2, hn1, hn2', hown, hW, hkr⟩ := hrel
            have HBW : Hid (∀ w', Keep (fun k => k < g) wr w' → Below w.heap.size w w') := fun w' hk' => HB.out.trans ((hkr.trans hk').below HB.out.size (fun k hk => by have := HB.out.size; have := HG.out; omega))
            by_cases hc : i ≤ len'' ∧ i < 30
            · obtain ⟨hc1, hc2⟩ := hc
              have htr := HT.out.keep2 hkr (fun k hk => by rw [HG.out] at hk; exact hk)
              have HTR : Hid (IntsAt wr a'' len'' cap'' ts) := htr
              have HST : Hid (wr.ownsRow g 3 1 (.slice a8 n c8) n (ic os) ∧ WAt wr (Av (fun k => k < g) (.slice a8 n c8)) g (remR os last) ∧ Keep (fun k => k < g) w1 wr) := ⟨hown, hW, hkr⟩
              clear hown hW hkr htr
              rcases Nat.lt_or_ge i len'' with hlt | hge
              · obtain ⟨b3, o3, rfl, _, hc3⟩ := HTR.out.at_ i hlt
                generalize ts.getD i 0 = t at hc3
                obtain ⟨u, hu⟩ : ∃ u, wrap64 ((IntKind.u64.wrap t).tmod 9) = u := ⟨_, rfl⟩
                have hub := um_bd 9 t (by decide) (by decide)
                rw [hu] at hub
                obtain ⟨hu0, hu1⟩ := hub
                obtain ⟨N, hN⟩ : ∃ N, now + u = N := ⟨_, rfl⟩
                have hN0 : 0 ≤ N := by omega
                have hN1 : N ≤ 1000 := by omega
                have hNc : last ≤ N ∨ (99 ≤ N ∧ 99 ≤ last) := by omega
                have hN8 : N ≤ 8 * (i + 1) + 200 := by omega
                obtain ⟨q1, q2, q3⟩ := HST.out
                have hdue := due_w wr _ g _ N q2
                rw [remR_rest (fun x hx => HOL.out.2 x hx) hl1 hN0 hN1 hNc] at hdue
                have hkl := remR_due (os := os) (last := last) (now := N) (fun x hx => HOL.out.2 x hx) hl1 hN0 hN1
                have hkn := remR_due_len (os := os) (last := last) (now := N) (fun x hx => HOL.out.2 x hx) hl1 hN0 hN1
                rw [hkl, hkn] at hdue
                go_wp2_with fail
                refine hdue.mono ?_
                rintro e w4 ⟨v4, rfl, hW4, ho4, hk4⟩
                obtain ⟨a4, c4, rfl, hi4, hb4⟩ := owns_ints ho4
                have hown4 := owns_keep q1 hk4 (fun _ h => .inr h)
                obtain ⟨a9, c9, e9, hi9, hb9⟩ := owns_ints hown4
                simp only [Value.slice.injEq, true_and] at e9
                obtain ⟨rfl, rfl⟩ := e9
                have h4l := hi4.hle
                have h4c := hi4.hcap
                unfold maxLen at h4c
                have HE : Hid (w4.ownsRow g 3 1 (.slice a8 n c8) n (ic os) ∧ WAt w4 (Av (fun k => k < g) (.slice a8 n c8)) g (remR os N) ∧ Keep (fun k => k < g) w1 w4) := ⟨hown4, hW4.fewer (fun _ h => .inl h), q3.trans (hk4.mono fun _ _ h => .inl h)⟩
                have HKL : Hid (IntsAt w4 a4 (cnt os last N os.length).length c4 ((cnt os last N os.length).map (fun j : Nat => (j : Int)))) := hi4
                have HOS : Hid (IntsAt w4 a8 n c8 os) := hi9
                clear hdue hkl hkn hW4 ho4 hk4 hi4 hb4 hown4 hi9 hb9 q1 q2 q3 HST HTR
                obtain ⟨K, hK⟩ : ∃ K, (cnt os last N os.length).length = K := ⟨_, rfl⟩
                have HK : Hid ((cnt os last N os.length).length = K) := hK
                rw [hK] at h4l ⊢
                have hK30 : K ≤ 30 := by
                  have h1 : (cnt os last N os.length).length ≤ n := by
                    unfold cnt
                    exact Nat.le_trans (List.length_filter_le _ _) (by rw [List.length_range, HOL.out.1]; exact Nat.le_refl _)
                  rw [hK] at h1
                  omega
                clear hK
                go_wp2
                go_loopw [15, 16] (fun vk vj wx => ∃ j : Nat, vj = .int .i64 j ∧ j ≤ n ∧ vk = .int .i64 ((cnt os last N j).length : Nat) ∧ wx = w4) (fun _ vj _ => n - (intOf vj).toNat)
                case atStart => exact ⟨0, rfl, Nat.zero_le _, rfl, rfl⟩
                case round =>
                  obtain ⟨j, rfl, hj1, rfl, hwx⟩ := hrel
                  subst hwx
                  by_cases hj : j < n
                  · obtain ⟨b5, o5, e5, _, hc5⟩ := HOS.out.at_ j hj
                    subst e5
                    have hsuc := cnt_succ os last N j
                    have hat := fun hq => cnt_at (os := os) (last := last) (now := N) (j := j) (n := os.length) (by rw [HOL.out.1]; exact hj) hq
                    obtain ⟨x, hx⟩ : ∃ x, os.getD j 0 = x := ⟨_, rfl⟩
                    rw [hx] at hsuc hat hc5
                    clear hx
                    obtain ⟨kk, hkk⟩ : ∃ kk, (cnt os last N j).length = kk := ⟨_, rfl⟩
                    rw [hkk] at hat ⊢
                    have HSU : Hid (cnt os last N (j + 1) = cnt os last N j ++ (if (decide (last < x) && decide (x ≤ N)) then [j] else [])) := hsuc
                    have HKK : Hid ((cnt os last N j).length = kk) := hkk
                    clear hsuc hkk
                    by_cases h1 : last < x
                    · by_cases h2 : x ≤ N
                      · obtain ⟨hk1, hk2⟩ := hat (by rw [decide_eq_true h1, decide_eq_true h2]; rfl)
                        rw [HK.out] at hk1
                        obtain ⟨b6, o6, e6, _, hc6⟩ := HKL.out.at_ kk (by rw [HK.out]; exact hk1)
                        subst e6
                        have hg6 : ((cnt os last N os.length).map (fun j : Nat => (j : Int))).getD kk 0 = (j : Int) := by
                          have hl : kk < (cnt os last N os.length).length := by rw [HK.out]; exact hk1
                          rw [List.getD_eq_getElem?_getD, List.getElem?_eq_getElem hl] at hk2
                          simp at hk2
                          rw [List.getD_eq_getElem?_getD, List.getElem?_map, List.getElem?_eq_getElem hl]
                          simp [hk2]
                        rw [hg6] at hc6
                        have hki : (kk : Int) < (K : Int) := by omega
                        clear hat hk2 hg6
                        go_wp2
                        refine ⟨⟨j + 1, by simp, by omega, ?_, by trivial⟩, by simp [intOf]; omega⟩
                        rw [HSU.out, if_pos (by rw [decide_eq_true h1, decide_eq_true h2]; rfl), List.length_append, HKK.out]
                        simp
                      · have hb2 : decide (x ≤ N) = false := decide_eq_false h2
                        clear hat
                        go_wp2
                        refine ⟨⟨j + 1, by simp, by omega, ?_, by trivial⟩, by simp [intOf]; omega⟩
                        rw [HSU.out, if_neg (by rw [decide_eq_false h2]; simp), List.append_nil, HKK.out]
                    · have hb1' : decide (last < x) = false := decide_eq_false h1
                      clear hat
                      go_wp2
                      refine ⟨⟨j + 1, by simp, by omega, ?_, by trivial⟩, by simp [intOf]; omega⟩
                      rw [HSU.out, if_neg (by rw [decide_eq_false h1]; simp), List.append_nil, HKK.out]
                  · obtain rfl : n = j := by omega
                    have hend : (cnt os last N n).length = K := by rw [← HOL.out.1]; exact HK.out
                    rw [hend]
                    clear hend
                    go_wp2
                    obtain ⟨q1, q2, q3⟩ := HE.out
                    exact ⟨⟨i + 1, N, N, rfl, rfl, by simp, by omega, by omega, by omega, Int.le_refl _, hN0, by omega, q1, q2, q3⟩, by simp [intOf]; omega⟩
              · obtain rfl : i = len'' := by omega
                have hN0 : (0 : Int) ≤ 200 := by omega
                have hN1 : (200 : Int) ≤ 1000 := by omega
                have hNc : last ≤ 200 ∨ ((99 : Int) ≤ 200 ∧ 99 ≤ last) := by omega
                obtain ⟨q1, q2, q3⟩ := HST.out
                have hdue := due_w wr _ g _ 200 q2
                rw [remR_rest (fun x hx => HOL.out.2 x hx) hl1 hN0 hN1 hNc] at hdue
                have hkl := remR_due (os := os) (last := last) (now := 200) (fun x hx => HOL.out.2 x hx) hl1 hN0 hN1
                have hkn := remR_due_len (os := os) (last := last) (now := 200) (fun x hx => HOL.out.2 x hx) hl1 hN0 hN1
                rw [hkl, hkn] at hdue
                go_wp2_with fail
                refine hdue.mono ?_
                rintro e w4 ⟨v4, rfl, hW4, ho4, hk4⟩
                obtain ⟨a4, c4, rfl, hi4, hb4⟩ := owns_ints ho4
                have hown4 := owns_keep q1 hk4 (fun _ h => .inr h)
                obtain ⟨a9, c9, e9, hi9, hb9⟩ := owns_ints hown4
                simp only [Value.slice.injEq, true_and] at e9
                obtain ⟨rfl, rfl⟩ := e9
                have h4l := hi4.hle
                have h4c := hi4.hcap
                unfold maxLen at h4c
                have HE : Hid (w4.ownsRow g 3 1 (.slice a8 n c8) n (ic os) ∧ WAt w4 (Av (fun k => k < g) (.slice a8 n c8)) g (remR os 200) ∧ Keep (fun k => k < g) w1 w4) := ⟨hown4, hW4.fewer (fun _ h => .inl h), q3.trans (hk4.mono fun _ _ h => .inl h)⟩
                have HKL : Hid (IntsAt w4 a4 (cnt os last 200 os.length).length c4 ((cnt os last 200 os.length).map (fun j : Nat => (j : Int)))) := hi4
                have HOS : Hid (IntsAt w4 a8 n c8 os) := hi9
                clear hdue hkl hkn hW4 ho4 hk4 hi4 hb4 hown4 hi9 hb9 q1 q2 q3 HST HTR
                obtain ⟨K, hK⟩ : ∃ K, (cnt os last 200 os.length).length = K := ⟨_, rfl⟩
                have HK : Hid ((cnt os last 200 os.length).length = K) := hK
                rw [hK] at h4l ⊢
                have hK30 : K ≤ 30 := by
                  have h1 : (cnt os last 200 os.length).length ≤ n := by
                    unfold cnt
                    exact Nat.le_trans (List.length_filter_le _ _) (by rw [List.length_range, HOL.out.1]; exact Nat.le_refl _)
                  rw [hK] at h1
                  omega
                clear hK
                go_wp2
                go_loopw [15, 16] (fun vk vj wx => ∃ j : Nat, vj = .int .i64 j ∧ j ≤ n ∧ vk = .int .i64 ((cnt os last 200 j).length : Nat) ∧ wx = w4) (fun _ vj _ => n - (intOf vj).toNat)
                case atStart => exact ⟨0, rfl, Nat.zero_le _, rfl, rfl⟩
                case round =>
                  obtain ⟨j, rfl, hj1, rfl, hwx⟩ := hrel
                  subst hwx
                  by_cases hj : j < n
                  · obtain ⟨b5, o5, e5, _, hc5⟩ := HOS.out.at_ j hj
                    subst e5
                    have hsuc := cnt_succ os last 200 j
                    have hat := fun hq => cnt_at (os := os) (last := last) (now := 200) (j := j) (n := os.length) (by rw [HOL.out.1]; exact hj) hq
                    obtain ⟨x, hx⟩ : ∃ x, os.getD j 0 = x := ⟨_, rfl⟩
                    rw [hx] at hsuc hat hc5
                    clear hx
                    obtain ⟨kk, hkk⟩ : ∃ kk, (cnt os last 200 j).length = kk := ⟨_, rfl⟩
                    rw [hkk] at hat ⊢
                    have HSU : Hid (cnt os last 200 (j + 1) = cnt os last 200 j ++ (if (decide (last < x) && decide (x ≤ 200)) then [j] else [])) := hsuc
                    have HKK : Hid ((cnt os last 200 j).length = kk) := hkk
                    clear hsuc hkk
                    by_cases h1 : last < x
                    · by_cases h2 : x ≤ 200
                      · obtain ⟨hk1, hk2⟩ := hat (by rw [decide_eq_true h1, decide_eq_true h2]; rfl)
                        rw [HK.out] at hk1
                        obtain ⟨b6, o6, e6, _, hc6⟩ := HKL.out.at_ kk (by rw [HK.out]; exact hk1)
                        subst e6
                        have hg6 : ((cnt os last 200 os.length).map (fun j : Nat => (j : Int))).getD kk 0 = (j : Int) := by
                          have hl : kk < (cnt os last 200 os.length).length := by rw [HK.out]; exact hk1
                          rw [List.getD_eq_getElem?_getD, List.getElem?_eq_getElem hl] at hk2
                          simp at hk2
                          rw [List.getD_eq_getElem?_getD, List.getElem?_map, List.getElem?_eq_getElem hl]
                          simp [hk2]
                        rw [hg6] at hc6
                        have hki : (kk : Int) < (K : Int) := by omega
                        clear hat hk2 hg6
                        go_wp2
                        refine ⟨⟨j + 1, by simp, by omega, ?_, by trivial⟩, by simp [intOf]; omega⟩
                        rw [HSU.out, if_pos (by rw [decide_eq_true h1, decide_eq_true h2]; rfl), List.length_append, HKK.out]
                        simp
                      · have hb2 : decide (x ≤ 200) = false := decide_eq_false h2
                        clear hat
                        go_wp2
                        refine ⟨⟨j + 1, by simp, by omega, ?_, by trivial⟩, by simp [intOf]; omega⟩
                        rw [HSU.out, if_neg (by rw [decide_eq_false h2]; simp), List.append_nil, HKK.out]
                    · have hb1' : decide (last < x) = false := decide_eq_false h1
                      clear hat
                      go_wp2
                      refine ⟨⟨j + 1, by simp, by omega, ?_, by trivial⟩, by simp [intOf]; omega⟩
                      rw [HSU.out, if_neg (by rw [decide_eq_false h1]; simp), List.append_nil, HKK.out]
                  · obtain rfl : n = j := by omega
                    have hend : (cnt os last 200 n).length = K := by rw [← HOL.out.1]; exact HK.out
                    rw [hend]
                    clear hend
                    go_wp2
                    obtain ⟨q1, q2, q3⟩ := HE.out
                    exact ⟨⟨i + 1, 200, 200, rfl, rfl, by simp, by omega, by omega, by omega, Int.le_refl _, hN0, by omega, q1, q2, q3⟩, by simp [intOf]; omega⟩
            · have hexit : (i = 30 ∧ 30 ≤ len'') ∨ i = len'' + 1 := by omega
              have hemp : 200 ≤ last → remR os last = [] := fun h => remR_none HOL.out.2 (by omega)
              have hln := len_w wr _ g _ hW
              clear hown hW hkr hc hi2
              rcases hexit with ⟨rfl, h1⟩ | rfl
              all_goals (
                by_cases h200 : last < 200
                · clear hln hemp
                  go_wp2
                  go_ret
                  exact ⟨rfl, HBW.out _ (Keep.refl _ _)⟩
                · have hb200 : decide (last < 200) = false := decide_eq_false h200
                  rw [hemp (by omega)] at hln
                  have hs0 : ([] : List (Int × Int)).length = 0 := rfl
                  rw [hs0] at hln
                  clear hemp
                  go_wp2_with (first | (go_at_call 24; refine hln.mono ?_; rintro e w' ⟨rfl, hw'⟩; obtain rfl : wr = w' := hw'.symm))
                  go_ret
                  exact ⟨rfl, HBW.out _ (Keep.refl _ _)⟩)

end Go.Proofs.Ytahdeliopmkpmaa
