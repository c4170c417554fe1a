/-
  QueueRoom's walk: those that wait, and the room, are as many as there may be, always: it returns true and turns nothing that was there. Conditions: the steps lie where they are said to lie.
-/
import Derived.Test.YtcndgcfdopjjfaaRoomP
namespace Go.Proofs.Ytcndgcfdopjjfaa
open Go.ChangeShapes Go.WideShapes Go.ChangeAt Go.RowKit

set_option maxHeartbeats 4000000 in
set_option maxRecDepth 100000 in
theorem room_walk (rm : Int) (a1 : Option Addr) (l1 c1 : Nat) (ss : List Stp) (w : World) (hz : StepsAt w a1 l1 c1 ss) :
    Calls Try.prog 7 #[.int .i64 rm, .slice a1 l1 c1] w fun e w' => e = .returned (.bool true) ∧ Below w.heap.size w w' := by
  have q1 := hz.hle
  have q2 := hz.hcap
  have hub := um_bd 17 rm (by decide) (by decide)
  obtain ⟨R, hu⟩ : ∃ R : Nat, wrap64 ((IntKind.u64.wrap rm).tmod 17) = (R : Int) := ⟨(wrap64 ((IntKind.u64.wrap rm).tmod 17)).toNat, by omega⟩
  rw [hu] at hub
  have hR : R ≤ 16 := by omega
  clear hub
  obtain ⟨n, hn⟩ : ∃ n, min l1 100 = n := ⟨_, rfl⟩
  have hear := early_any a1 l1 c1 n q1 q2 hn
  unfold maxLen at q2
  go_enter Try.func7, Try.ntmps7
  go_wp2_with fail
  refine (lives_any _).mono ?_
  rintro e w1 ⟨rfl, hb1⟩
  go_wp2_with fail
  refine (new_any _ w1).mono ?_
  rintro e w2 ⟨rfl, hq2, hb2, -⟩
  rw [roomN_nat hR] at hq2
  rw [hu]
  have hk12 : Keep (fun k => k < w1.heap.size) w1 w2 := keep_below hb2
  have HZ : Hid (StepsAt w1 a1 l1 c1 ss) := hz.below hb1
  have HB : Hid (Below w.heap.size w w1) := hb1
  clear hz hb1 hb2 hu
  generalize hg : w1.heap.size + 1 = g at *
  go_wp2_with fail
  refine (hear _).mono ?_
  rintro e w3 ⟨rfl, hw3⟩
  subst w3
  go_wp2
  go_loopw [6] (fun v6 wr => ∃ (i : Nat) (L : List Wt), v6 = .int .i64 i ∧ i ≤ n ∧ Dst (L.map Prod.fst) ∧ QAt wr (fun k => k < w1.heap.size) g R L ∧ Keep (fun k => k < w1.heap.size) w1 wr) (fun v6 _ => n + 1 - (intOf v6).toNat)
  case atStart => exact ⟨0, [], rfl, Nat.zero_le _, Dst.nil, hq2, hk12⟩
  case round =>
    clear hq2 hk12
    obtain ⟨i, L, rfl, hi, hD, hq, hkr⟩ := hrel
    by_cases hc : i < n
    · obtain ⟨b, off, rfl, hlt, hs0, hs1, hs2, hs3⟩ := HZ.out.rd i (by omega)
      have x0 := hkr.cell hs0 hlt
      have x1 := hkr.cell hs1 hlt
      have x2 := hkr.cell hs2 hlt
      have x3 := hkr.cell hs3 hlt
      generalize ss.getD i s0 = st at x0 x1 x2 x3
      clear hs0 hs1 hs2 hs3
      have hba : Below wr.heap.size wr (wr.alloc (.cells #[.int .i64 st.kd, .int .i64 st.id, .int .i64 st.now, .int .i64 st.wt] 32)) := (Below.refl _ _).alloc (Nat.le_refl _) _
      have hqa := hq.below hba
      have hida := ids_w _ _ g R L hqa
      have hsta : StAt (wr.alloc (.cells #[.int .i64 st.kd, .int .i64 st.id, .int .i64 st.now, .int .i64 st.wt] 32)) wr.heap.size st := heap_alloc_new _ _
      have hsza : (wr.alloc (.cells #[.int .i64 st.kd, .int .i64 st.id, .int .i64 st.now, .int .i64 st.wt] 32)).heap.size = wr.heap.size + 1 := by simp
      have hszr := hkr.size
      have hkd := kindI_of st.kd
      have hkk := kind_step st.kd st.id st.now st.wt
      generalize kindI st.kd = kd at hkd hkk
      have HR : Hid (∀ w3 w4, Below (wr.alloc (.cells #[.int .i64 st.kd, .int .i64 st.id, .int .i64 st.now, .int .i64 st.wt] 32)).heap.size (wr.alloc (.cells #[.int .i64 st.kd, .int .i64 st.id, .int .i64 st.now, .int .i64 st.wt] 32)) w3 → w3.heap.size = (wr.alloc (.cells #[.int .i64 st.kd, .int .i64 st.id, .int .i64 st.now, .int .i64 st.wt] 32)).heap.size + 1 → IntsAt w3 (some ⟨(wr.alloc (.cells #[.int .i64 st.kd, .int .i64 st.id, .int .i64 st.now, .int .i64 st.wt] 32)).heap.size, 0, none⟩) L.length L.length (L.map Prod.fst) → Below w3.heap.size w3 w4 → RQ w1 w4 g R wr.heap.size L st) := by
        intro w3 w4 hb3 hs3 hI3 hb4
        have hz4 := hb4.size
        rw [hsza] at hs3 hI3
        refine ⟨(hsta.below hb3).below hb4, hI3.below hb4, ((hqa.below hb3).below hb4).fewer (fun k hk => ?_), ((hkr.trans (keep_below hba)).trans (keep_below hb3)).trans (keep_below hb4), hD, hszr, by omega⟩
        rcases hk with hk | rfl | rfl
        · exact .inl (.inl (.inl hk))
        · exact .inl (.inl (.inr ⟨Nat.le_refl _, by omega⟩))
        · exact .inl (.inr ⟨by omega, by omega⟩)
      go_upto_block 2 with (first
        | (go_at_call 27; refine hida.mono ?_; rintro e w3 ⟨rfl, hI3, hb3, hs3⟩; obtain ⟨t0, t1, t2, t3⟩ := (hsta.below hb3).cells)
        | (go_at_call 12; refine (hkk _).mono ?_; rintro e w4 ⟨rfl, hb4⟩))
      have hRQ := HR.out w3 w4 hb3 hs3 hI3 hb4
      clear HR hb3 hs3 hI3 hb4 hba hqa hida hsta hsza hkk hq hkr hD x0 x1 x2 x3 t0 t1 t2 t3
      generalize wr.heap.size = z at *
      have HRQ : Hid (RQ w1 w4 g R z L st) := hRQ
      have hmx := hRQ.q.max
      have hml := hRQ.q.le
      obtain ⟨t0, t1, t2, t3⟩ := hRQ.st.cells
      have hids := hRQ.ids
      clear hRQ
      go_cut [9, 10, 11] from 36 to 94 (fun s9 _ _ wx => ∃ (L2 : List Wt) (a9 : Option Addr) (c9 : Nat), s9 = .slice a9 L2.length c9 ∧ RE w1 wx g R a9 L2.length c9 L2)
      case first =>
        rcases hkd with hkd | rfl | rfl | rfl
        · by_cases hmem : st.id ∈ L.map Prod.fst
          · rcases hkd with rfl | rfl
            all_goals (
              go_wp2_with (first
                | (at_builtin; refine wpList_ints _ rfl _ _ rfl w4.heap.size (.slice none 0 0) 0 [] (L.map Prod.fst) _ rfl ⟨rfl, .inl ⟨rfl, rfl⟩⟩ (some ⟨z + 1, 0, none⟩) L.length L.length rfl hids (fun h => by cases h) (by omega) (Nat.le_refl _) rfl L.length (by omega) ?_; intro v' w5 o5 g5 _; have hc5 := HRQ.out.copied o5 g5; have hst5 := hc5.2.1.cells; have y1 := hst5.2.1; have y2 := hst5.2.2.1; have hp := push_there w5 _ g R L st.id st.now hc5.1 hmem)
                | (go_at_call 14; refine hp.mono ?_; rintro e w' ⟨rfl, hw'⟩; subst w'))
              go_meet
              obtain ⟨a, c, e1, hre⟩ := HRQ.out.nobody o5 g5
              exact ⟨_, a, c, e1, hre⟩)
          · by_cases hfull : R ≤ L.length
            · rcases hkd with rfl | rfl
              all_goals (
                go_wp2_with (first
                  | (at_builtin; refine wpList_ints _ rfl _ _ rfl w4.heap.size (.slice none 0 0) 0 [] (L.map Prod.fst) _ rfl ⟨rfl, .inl ⟨rfl, rfl⟩⟩ (some ⟨z + 1, 0, none⟩) L.length L.length rfl hids (fun h => by cases h) (by omega) (Nat.le_refl _) rfl L.length (by omega) ?_; intro v' w5 o5 g5 _; have hc5 := HRQ.out.copied o5 g5; have hst5 := hc5.2.1.cells; have y1 := hst5.2.1; have y2 := hst5.2.2.1; have hp := push_full w5 _ g R L st.id st.now hc5.1 hmem hfull)
                  | (go_at_call 14; refine hp.mono ?_; rintro e w' ⟨rfl, hw'⟩; subst w'))
                go_meet
                obtain ⟨a, c, e1, hre⟩ := HRQ.out.nobody o5 g5
                exact ⟨_, a, c, e1, hre⟩)
            · rcases hkd with rfl | rfl
              all_goals (
                go_wp2_with (first
                  | (at_builtin; refine wpList_ints _ rfl _ _ rfl w4.heap.size (.slice none 0 0) 0 [] (L.map Prod.fst) _ rfl ⟨rfl, .inl ⟨rfl, rfl⟩⟩ (some ⟨z + 1, 0, none⟩) L.length L.length rfl hids (fun h => by cases h) (by omega) (Nat.le_refl _) rfl L.length (by omega) ?_; intro v' w5 o5 g5 _; have hc5 := HRQ.out.copied o5 g5; have hst5 := hc5.2.1.cells; have y1 := hst5.2.1; have y2 := hst5.2.2.1; have hp := push_ok w5 _ g R L st.id st.now hc5.1 hmem (by omega))
                  | (go_at_call 14; refine hp.mono ?_; rintro e w6 ⟨rfl, hq6, hk6⟩; have hst6 := (hc5.2.1.keep hk6 (.inl (.inr (.inl rfl)))).cells; have y6 := hst6.2.1; have o6 := (owns_keep o5 hk6 (fun k hk => .inr hk)).alloc (.cells #[.int .i64 st.id] 3); have hone := one_at w6 st.id; have hz6 := hk6.size; have hz5 := g5.size)
                  | (at_builtin; refine wpList_ints _ rfl _ _ rfl w4.heap.size v' L.length (L.map Prod.fst) [st.id] _ rfl o6 _ 1 1 rfl hone (fun h => by cases h) (by omega) (by simp; omega) rfl (L.length + 1) rfl ?_; intro v'' w7 o7 g7 _))
                go_meet
                obtain ⟨a, c, e1, hre⟩ := HRQ.out.more o5 g5 hmem hq6 hk6 o7 g7
                exact ⟨_, a, c, e1, hre⟩)
        · have hpop := pop_w w4 _ g R L HRQ.out.q
          by_cases h0 : 0 < L.length
          · rw [decide_eq_true h0] at hpop
            by_cases h1 : L.length = 1
            · obtain ⟨p, rfl⟩ := List.length_eq_one_iff.1 h1
              go_wp2_with (first
                | (go_at_call 16; refine hpop.mono ?_; rintro e w5 ⟨rfl, hq5, hk5⟩)
                | (at_builtin; refine wpList_ints _ rfl _ _ rfl w5.heap.size (.slice none 0 0) 0 [] [] _ rfl ⟨rfl, .inl ⟨rfl, rfl⟩⟩ _ 0 0 rfl (IntsAt.zero _ _) (fun _ => ⟨rfl, rfl⟩) (by omega) (Nat.le_refl _) rfl 0 (by omega) ?_; intro v' w6 o6 g6 _))
              go_meet
              obtain ⟨a, c, e1, hre⟩ := HRQ.out.popped h0 hq5 hk5 o6 g6
              exact ⟨_, a, c, e1, hre⟩
            · have hI4 := HRQ.out.ids.drop1 h0
              rw [Nat.zero_add] at hI4
              go_wp2_with (first
                | (go_at_call 16; refine hpop.mono ?_; rintro e w5 ⟨rfl, hq5, hk5⟩; have hI5 := hI4.keep hk5 (fun x hx => by cases hx; exact .inr (.inr rfl)))
                | (at_builtin; refine wpList_ints _ rfl _ _ rfl w5.heap.size (.slice none 0 0) 0 [] ((L.map Prod.fst).drop 1) _ rfl ⟨rfl, .inl ⟨rfl, rfl⟩⟩ (some ⟨z + 1, 1, none⟩) (L.length - 1) (L.length - 1) rfl hI5 (fun h => by cases h) (by omega) (Nat.le_refl _) rfl (L.length - 1) (by omega) ?_; intro v' w6 o6 g6 _))
              go_meet
              obtain ⟨a, c, e1, hre⟩ := HRQ.out.popped h0 hq5 hk5 o6 g6
              exact ⟨_, a, c, e1, hre⟩
          · obtain rfl : L = [] := List.length_eq_zero_iff.1 (by omega)
            (
              go_wp2_with (first | (go_at_call 16; refine hpop.mono ?_; rintro e w5 ⟨rfl, hq5, hk5⟩))
              go_meet
              exact ⟨_, none, 0, rfl, IntsAt.nil _, hq5.fewer (fun k hk => .inl hk), HRQ.out.keep.trans (hk5.mono (fun k _ hk => .inl hk)), Dst.nil⟩)
        · have hpl := place_w w4 _ g R L st.id HRQ.out.q
          have hrm := remove_w w4 _ g R L st.id HRQ.out.q
          have hge : decide (st.id ∈ L.map Prod.fst) = decide (0 ≤ plc st.id (L.map Prod.fst)) := by rw [decide_eq_decide]; exact plc_ge.symm
          rw [hge] at hrm
          have HPL : Hid (∀ j, j < L.length → ((L.map Prod.fst).getD j 0 = st.id ↔ ((j : Nat) : Int) = plc st.id (L.map Prod.fst))) := fun j hj => HRQ.out.dst.plc (by simpa using hj) st.id
          generalize plc st.id (L.map Prod.fst) = K at *
          clear hge
          go_wp2_with (first
            | (go_at_call 28; refine hpl.mono ?_; rintro e w' ⟨rfl, hw'⟩; subst w')
            | (go_at_call 18; refine hrm.mono ?_; rintro e w5 ⟨rfl, hq5, hk5⟩))
          have HI5 : Hid (IntsAt w5 (some ⟨z + 1, 0, none⟩) L.length L.length (L.map Prod.fst)) := HRQ.out.ids.keep hk5 (fun x hx => by cases hx; exact .inr (.inr rfl))
          have HQ5 : Hid (QAt w5 (fun k => k < w1.heap.size ∨ k = z ∨ k = z + 1) g R (without [st.id] L)) := hq5
          have HK5 : Hid (Keep (fun k => k < w1.heap.size ∨ k = z ∨ k = z + 1) w4 w5) := hk5
          clear hq5 hk5 hpl hrm t0 t1 t2 t3 hids
          go_loopw [9, 11] (fun v9 v11 wr => ∃ (j : Nat) (nn : Nat), v11 = .int .i64 j ∧ j ≤ L.length ∧ nn ≤ j ∧ wr.ownsRow w5.heap.size 3 1 v9 nn (ic (((L.map Prod.fst).take j).filter (fun x => !([st.id].contains x)))) ∧ Below w5.heap.size w5 wr) (fun _ v11 _ => L.length + 1 - (intOf v11).toNat)
          case atStart => exact ⟨0, 0, rfl, Nat.zero_le _, Nat.le_refl _, ⟨rfl, .inl ⟨rfl, rfl⟩⟩, Below.refl _ _⟩
          case round =>
            obtain ⟨j, nn, rfl, hj, hnn, hown, hbl⟩ := hrel
            by_cases hjl : j < L.length
            · obtain ⟨bb, oo, e1, _, hcj⟩ := (HI5.out.below hbl).at_ j hjl
              cases e1
              rw [Nat.zero_add] at hcj
              have hplj := HPL.out j hjl
              have hsn : (L.map Prod.fst).take (j + 1) = (L.map Prod.fst).take j ++ [(L.map Prod.fst).getD j 0] := by
                rw [List.take_add_one]
                congr 1
                simp [List.getD, hjl]
              generalize (L.map Prod.fst).getD j 0 = y at hcj hplj hsn
              have HO : Hid (wr.ownsRow w5.heap.size 3 1 u9 nn (ic (((L.map Prod.fst).take j).filter (fun x => !([st.id].contains x))))) := hown
              have HBL : Hid (Below w5.heap.size w5 wr) := hbl
              have hszb := hbl.size
              by_cases hy : y = st.id
              · have hjk : ((j : Nat) : Int) = K := hplj.1 hy
                have e2 : ((L.map Prod.fst).take (j + 1)).filter (fun x => !([st.id].contains x)) = ((L.map Prod.fst).take j).filter (fun x => !([st.id].contains x)) := by rw [hsn, List.filter_append, hy]; simp
                clear hown hbl hplj hsn
                go_wp2
                exact ⟨⟨j + 1, nn, by simp [hjk], by omega, by omega, by rw [e2]; exact HO.out, HBL.out⟩, by simp [intOf]; omega⟩
              · have hjk : ¬ ((j : Nat) : Int) = K := fun e => hy (hplj.2 e)
                have hjb : (((j : Nat) : Int) != K) = true := by rw [bne_iff_ne]; exact hjk
                have e2 : ((L.map Prod.fst).take (j + 1)).filter (fun x => !([st.id].contains x)) = ((L.map Prod.fst).take j).filter (fun x => !([st.id].contains x)) ++ [y] := by rw [hsn, List.filter_append]; congr 1; simp [hy]
                have o2 := hown.alloc (.cells #[.int .i64 y] 3)
                have hone := one_at wr y
                clear hown hbl hplj hsn
                go_wp2_with (first | (at_builtin; refine wpList_ints _ rfl _ _ rfl w5.heap.size u9 nn _ [y] _ rfl o2 _ 1 1 rfl hone (fun h => by cases h) (by omega) (by simp; omega) rfl (nn + 1) rfl ?_; intro v' w7 o7 g7 _))
                refine ⟨⟨j + 1, nn + 1, by simp, by omega, by omega, by rw [e2]; exact o7, below_grown o2 g7 (HBL.out.alloc hszb _) (Nat.le_refl _)⟩, by simp [intOf]; omega⟩
            · obtain rfl : j = L.length := by omega
              rw [List.take_of_length_le (by simp)] at hown
              obtain ⟨a, c, e1, hre⟩ := HRQ.out.removed HQ5.out HK5.out hown hbl
              have HE : Hid (∃ a c, u9 = .slice a (without [st.id] L).length c ∧ RE w1 wr g R a (without [st.id] L).length c (without [st.id] L)) := ⟨a, c, e1, hre⟩
              clear hown hbl hre
              go_wp2
              go_meet
              obtain ⟨a, c, e1, hre⟩ := HE.out
              exact ⟨_, a, c, e1, hre⟩
        · have hpop := pop_w w4 _ g R L HRQ.out.q
          by_cases h0 : 0 < L.length
          · rw [decide_eq_true h0] at hpop
            by_cases h1 : L.length = 1
            · obtain ⟨p, rfl⟩ := List.length_eq_one_iff.1 h1
              go_wp2_with (first
                | (go_at_call 16; refine hpop.mono ?_; rintro e w5 ⟨rfl, hq5, hk5⟩)
                | (at_builtin; refine wpList_ints _ rfl _ _ rfl w5.heap.size (.slice none 0 0) 0 [] [] _ rfl ⟨rfl, .inl ⟨rfl, rfl⟩⟩ _ 0 0 rfl (IntsAt.zero _ _) (fun _ => ⟨rfl, rfl⟩) (by omega) (Nat.le_refl _) rfl 0 (by omega) ?_; intro v' w6 o6 g6 _))
              go_meet
              obtain ⟨a, c, e1, hre⟩ := HRQ.out.popped h0 hq5 hk5 o6 g6
              exact ⟨_, a, c, e1, hre⟩
            · have hI4 := HRQ.out.ids.drop1 h0
              rw [Nat.zero_add] at hI4
              go_wp2_with (first
                | (go_at_call 16; refine hpop.mono ?_; rintro e w5 ⟨rfl, hq5, hk5⟩; have hI5 := hI4.keep hk5 (fun x hx => by cases hx; exact .inr (.inr rfl)))
                | (at_builtin; refine wpList_ints _ rfl _ _ rfl w5.heap.size (.slice none 0 0) 0 [] ((L.map Prod.fst).drop 1) _ rfl ⟨rfl, .inl ⟨rfl, rfl⟩⟩ (some ⟨z + 1, 1, none⟩) (L.length - 1) (L.length - 1) rfl hI5 (fun h => by cases h) (by omega) (Nat.le_refl _) rfl (L.length - 1) (by omega) ?_; intro v' w6 o6 g6 _))
              go_meet
              obtain ⟨a, c, e1, hre⟩ := HRQ.out.popped h0 hq5 hk5 o6 g6
              exact ⟨_, a, c, e1, hre⟩
          · obtain rfl : L = [] := List.length_eq_zero_iff.1 (by omega)
            (
              go_wp2_with (first | (go_at_call 16; refine hpop.mono ?_; rintro e w5 ⟨rfl, hq5, hk5⟩))
              go_meet
              exact ⟨_, none, 0, rfl, IntsAt.nil _, hq5.fewer (fun k hk => .inl hk), HRQ.out.keep.trans (hk5.mono (fun k _ hk => .inl hk)), Dst.nil⟩)
      case rest =>
        obtain ⟨L2, a9, c9, rfl, hre⟩ := hcut
        clear HRQ t0 t1 t2 t3 hids
        have hida := ids_w _ _ g R L2 hre.q
        have hmx := hre.q.max
        have hml := hre.q.le
        have HRE : Hid (RE w1 wc g R a9 L2.length c9 L2) := hre
        clear hre
        go_wp2_with (first
          | (go_at_call 27; refine hida.mono ?_; rintro e w5 ⟨rfl, hI5, hb5, hs5⟩; have hsm := same_b _ _ _ _ _ _ w5 hI5 (HRE.out.ids.below hb5))
          | (go_at_call 20; refine hsm.mono ?_; rintro e w6 ⟨rfl, hb6⟩; have hq6 := (HRE.out.q.below (below_trans hb5 hb6)).fewer (fun k hk => .inl hk); have hl6 := len_w w6 _ g R L2 hq6; have hr6 := room_w w6 _ g R L2 hq6)
          | (go_at_call 25; refine hl6.mono ?_; rintro e w' ⟨rfl, hw'⟩; subst w')
          | (go_at_call 26; refine hr6.mono ?_; rintro e w' ⟨rfl, hw'⟩; subst w'))
        exact ⟨⟨i + 1, L2, by simp, by omega, HRE.out.dst, hq6, HRE.out.keep.trans (keep_below (below_trans hb5 hb6))⟩, by simp [intOf]; omega⟩
    · have HE : Hid (Below w.heap.size w wr) := below_trans HB.out (hkr.below (Nat.le_refl _) (fun _ h => h))
      clear hq hkr
      go_wp2
      go_ret
      exact ⟨rfl, HE.out⟩

end Go.Proofs.Ytcndgcfdopjjfaa
