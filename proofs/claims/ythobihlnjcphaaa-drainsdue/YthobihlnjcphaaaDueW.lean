/-
  DrainsDue's walk: those that are due are of those under way, in their row, and no fewer as ticks go by: it returns true and turns nothing that was there. Conditions: the slices lie where they are said to lie.
-/
import Derived.Test.YthobihlnjcphaaaDueP
import Derived.Deep.RegionWith
import Derived.Deep.CutBlock
namespace Go.Proofs.Ythobihlnjcphaaa
open Go.ChangeShapes Go.WideShapes Go.ChangeAt Go.RowKit

set_option maxHeartbeats 4000000 in
set_option maxRecDepth 100000 in
theorem due_walk (a1 : Option Addr) (l1 c1 : Nat) (zs : List Int) (a2 : Option Addr) (l2 c2 : Nat) (ts : List Int) (x y : Int) (w : World) (h1 : IntsAt w a1 l1 c1 zs) (h2 : IntsAt w a2 l2 c2 ts) :
    Calls Try.prog 7 #[.slice a1 l1 c1, .slice a2 l2 c2, .agg #[.int .i64 x, .int .i64 y]] w fun e w' => e = .returned (.bool true) ∧ Below w.heap.size w w' := by
  have q1 := h2.hle
  have q2 := h2.hcap
  unfold maxLen at q2
  have hb0 : Below w.heap.size w (w.alloc (.cells #[.int .i64 x, .int .i64 y] 62)) := (Below.refl _ w).alloc (Nat.le_refl _) _
  obtain ⟨z0, z1, -⟩ := blk2 (heap_alloc_new w (.cells #[.int .i64 x, .int .i64 y] 62))
  have hq0 : w.heap.size < (w.alloc (.cells #[.int .i64 x, .int .i64 y] 62)).heap.size := by simp
  have H1 := Hid.mk' (h1.below (Nat.le_refl _) hb0)
  have H2 := Hid.mk' (h2.below (Nat.le_refl _) hb0)
  have HB0 := Hid.mk' hb0
  have HZ : Hid ((w.alloc (.cells #[.int .i64 x, .int .i64 y] 62)).cell? ⟨w.heap.size, 0, none⟩ = some (.int .i64 x) ∧ (w.alloc (.cells #[.int .i64 x, .int .i64 y] 62)).cell? ⟨w.heap.size, 1, none⟩ = some (.int .i64 y)) := ⟨z0, z1⟩
  clear h1 h2 hb0 z0 z1
  go_enter Try.func7, Try.ntmps7
  go_wp2_with fail
  generalize w.alloc (.cells #[.int .i64 x, .int .i64 y] 62) = w0 at *
  refine (lives_any _).mono ?_
  rintro e w1 ⟨rfl, hb1⟩
  go_wp2_with fail
  refine (good_any _ _ _ _ _ (H1.out.below (Nat.le_refl _) hb1)).mono ?_
  rintro e w2 ⟨v, ns, rfl, hnd, hg6, hown, hb2⟩
  obtain ⟨an, cn, rfl, hs2, hbk⟩ := owns_strs hown
  have hlen6 := good_len hnd hg6
  go_wp2_with fail
  refine (new_any _).mono ?_
  rintro e w3 ⟨rfl, hq3, hb3⟩
  have HN : Hid (StrsAt w2 an ns.length cn ns) := hs2
  have HG : Hid (ns.Nodup ∧ ∀ s ∈ ns, s ∈ names6) := ⟨hnd, hg6⟩
  have HA : Hid (∀ z, an = some z → z.block < w2.heap.size) := fun z hz => (hbk z hz).2
  have HB2 : Hid (Below w0.heap.size w0 w2) := below_trans hb1 hb2
  have hsz2 := HB2.out.size
  have hk3 : Keep (fun k => k < w2.heap.size) w2 w3 := keep_below hb3
  clear hb1 hb2 hb3 hown hs2 hbk hnd hg6
  generalize hg2 : w2.heap.size = g at *
  have HS2 := Hid.mk' hg2
  clear hg2
  obtain ⟨n, hn⟩ : ∃ n, ns.length = n := ⟨_, rfl⟩
  have HL := Hid.mk' hn
  rw [hn]
  rw [hn] at HN hlen6
  have hncap := HN.out.hle
  have hncm := HN.out.hcap
  unfold maxLen at hncm
  clear hn
  go_wp2
  go_loopw [9] (fun v9 wr => ∃ (i : Nat) (M : List Dr), v9 = .int .i64 i ∧ i ≤ n ∧ Hid (nms M = ns.take i) ∧ DIn wr (fun k => k < g) g 0 [] M ∧ Keep (fun k => k < g) w2 wr) (fun v9 _ => n + 1 - (intOf v9).toNat)
  case atStart => exact ⟨0, [], rfl, Nat.zero_le _, rfl, hq3, hk3⟩
  case round =>
    clear hq3 hk3
    obtain ⟨i, M, rfl, hi, hM, hq, hk⟩ := hrel
    have HA' := HA.out
    have hMl : M.length = i := by rw [← nms_length, hM.out, List.length_take, HL.out]; omega
    by_cases hin : i < n
    · have hsw : StrsAt wr an n cn ns := HN.out.keep hk HA'
      obtain ⟨bn, on_, rfl, hbn, hcn⟩ := hsw.at_ i hin
      have hil : i < ns.length := by rw [HL.out]; exact hin
      have hmem := HG.out.2 _ (getD_mem hil)
      have hnot : ns.getD i ⟨#[]⟩ ∉ nms M := by
        rw [hM.out]
        intro hx
        have := nodup_take HG.out.1 (i + 1)
        rw [take_snoc hil, nodup_snoc] at this
        exact this.2 hx
      have hndM : (nms M).Nodup := by rw [hM.out]; exact nodup_take HG.out.1 i
      have hM1 : ∀ d, Hid (nms (M ++ [(ns.getD i ⟨#[]⟩, d)]) = ns.take (i + 1)) := fun d => by show _ = _; rw [nms_snoc, hM.out, take_snoc hil]
      have hbeg := fun d => begun_d wr _ g M (ns.getD i ⟨#[]⟩) d hq hndM hmem hnot (by omega)
      generalize ns.getD i ⟨#[]⟩ = f at *
      have HK := Hid.mk' hk
      have HM1 := Hid.mk' hM1
      clear hsw hk hM1 hmem hnot hndM hq hM hMl
      by_cases hi2 : i < l2
      · have h2w : IntsAt wr a2 l2 c2 ts := ((H2.out.below (Nat.le_refl _) HB2.out).keep (A := fun k => k < g) HK.out (fun z hz => by
          obtain ⟨b, off, e, hb, -⟩ := H2.out.at_ i hi2
          rw [e] at hz; cases hz
          have := HB2.out.size
          have := HS2.out
          show b < g
          omega))
        obtain ⟨bt, ot, rfl, hbt, hct⟩ := h2w.at_ i hi2
        have hbg := hbeg (ts.getD i 0)
        have HM2 := Hid.mk' (HM1.out (cut (ts.getD i 0)))
        generalize ts.getD i 0 = t at *
        clear hbeg h2w HM1
        go_wp2_with (first | (go_at_call 15; refine hbg.mono ?_; rintro e w4 ⟨rfl, hq4, hk4⟩))
        exact ⟨⟨i + 1, M ++ [(f, cut t)], by simp, by omega, HM2.out, hq4, HK.out.trans hk4⟩, by simp [intOf]; omega⟩
      · have hbg := hbeg 0
        have HM2 := Hid.mk' (HM1.out (cut 0))
        clear hbeg HM1
        go_wp2_with (first | (go_at_call 15; refine hbg.mono ?_; rintro e w4 ⟨rfl, hq4, hk4⟩))
        exact ⟨⟨i + 1, M ++ [(f, cut 0)], by simp, by omega, HM2.out, hq4, HK.out.trans hk4⟩, by simp [intOf]; omega⟩
    · obtain rfl : n = i := by omega
      rw [show ns.take n = ns by rw [← HL.out, List.take_length]] at hM
      have hqg : w.heap.size < w2.heap.size := Nat.lt_of_lt_of_le hq0 HB2.out.size
      rw [HS2.out] at hqg
      have hb2' := HB2.out
      have x0 := hk.cell ((hb2'.cell (p := ⟨w.heap.size, 0, none⟩) hq0).trans HZ.out.1) hqg
      have x1 := hk.cell ((hb2'.cell (p := ⟨w.heap.size, 1, none⟩) hq0).trans HZ.out.2) hqg
      have hndM : (nms M).Nodup := by rw [hM.out]; exact HG.out.1
      have HSN : Hid (StrsAt wr an n cn ns) := HN.out.keep hk HA.out
      have HBW : Hid (Below w.heap.size w wr) := by
        have h1 : Below w0.heap.size w0 wr := hb2'.trans (hk.below (by have := hb2'.size; omega) (fun k hk => by have := HB2.out.size; have := HS2.out; omega))
        exact HB0.out.trans (h1.mono HB0.out.size)
      obtain ⟨lo, hlo⟩ : ∃ lo, (if y < x then y else x) = lo := ⟨_, rfl⟩
      obtain ⟨hi', hhi⟩ : ∃ hi', (if x < y then y else x) = hi' := ⟨_, rfl⟩
      have hle : lo ≤ hi' := by rw [← hlo, ← hhi]; split <;> split <;> omega
      obtain ⟨D1, hD1⟩ : ∃ D1, dueL lo M = D1 := ⟨_, rfl⟩
      obtain ⟨D2, hD2⟩ : ∃ D2, dueL hi' M = D2 := ⟨_, rfl⟩
      obtain ⟨n1, hn1⟩ : ∃ n1, D1.length = n1 := ⟨_, rfl⟩
      obtain ⟨n2, hn2⟩ : ∃ n2, D2.length = n2 := ⟨_, rfl⟩
      have hdw : DW wr (fun k => k < g) g M wr := ⟨hq, Below.refl _ _⟩
      have HD1 : Hid (∀ w' : World, DW wr (fun k => k < g) g M w' → Calls Try.prog 26 #[.pointer (some ⟨g, 0, none⟩), .int .i64 lo] w' fun e w'' => ∃ a c, e = .returned (.slice a n1 c) ∧ StrsAt w'' a n1 c D1 ∧ Below w'.heap.size w' w'') := due_dw lo D1 n1 (by omega) hD1 hn1
      have HD2 : Hid (∀ w' : World, DW wr (fun k => k < g) g M w' → Calls Try.prog 26 #[.pointer (some ⟨g, 0, none⟩), .int .i64 hi'] w' fun e w'' => ∃ a c, e = .returned (.slice a n2 c) ∧ StrsAt w'' a n2 c D2 ∧ Below w'.heap.size w' w'') := due_dw hi' D2 n2 (by omega) hD2 hn2
      have H0 : Hid (hi' = hi') := rfl
      clear hq hk H1 H2 hb2' HB2 HS2 HZ HN HB0 hqg hq0 HA hsz2
      have hs0 : wr.drew.cell? ⟨w.heap.size, 0, none⟩ = some (.int .i64 x) ∧ wr.drew.cell? ⟨w.heap.size, 1, none⟩ = some (.int .i64 y) ∧ DW wr (fun k => k < g) g M wr.drew := ⟨x0, x1, hdw.step (below_drewN (Below.refl _ _) 1)⟩
      go_wp2_with fail
      go_cut [11, 12] from 44 to 57 (fun v11 v12 wx => ∃ a6 c6 a7 c7, v11 = .slice a6 n1 c6 ∧ v12 = .slice a7 n2 c7 ∧ StrsAt wx a6 n1 c6 D1 ∧ StrsAt wx a7 n2 c7 D2 ∧ DW wr (fun k => k < g) g M wx)
      case first =>
        go_region_held (fun w' => w'.cell? ⟨w.heap.size, 0, none⟩ = some (.int .i64 x) ∧ w'.cell? ⟨w.heap.size, 1, none⟩ = some (.int .i64 y) ∧ DW wr (fun k => k < g) g M w')
          (first | assumption | exact dw_step (by assumption) hb6 | exact dw_step (by assumption) hb7 | go_keep)
          (first
            | (go_at_call_of 26 (Value.int IntKind.i64 lo); refine (HD1.out _ ?_).mono ?_; (refine dw_of (q := w.heap.size) (x := x) (y := y) ?_; assumption); rintro e w6 ⟨a6, c6, rfl, hs6, hb6⟩)
            | (go_at_call_of 26 (Value.int IntKind.i64 hi'); refine (HD2.out _ ?_).mono ?_; (refine dw_of (q := w.heap.size) (x := x) (y := y) ?_; assumption); rintro e w7 ⟨a7, c7, rfl, hs7, hb7⟩))
        all_goals (
          have hw6 : DW wr (fun k => k < g) g M w6 := ⟨hdw.d.same ⟨hb6.os, hb6.tape, hb6.output, hb6.size, hb6.block⟩, ⟨hb6.os, hb6.tape, hb6.output, hb6.size, hb6.block⟩⟩
          go_wp2_with fail
          go_meet
          exact ⟨a6, c6, a7, c7, rfl, rfl, hs6.below (Nat.le_refl _) hb7, hs7, hw6.step hb7⟩)
      case rest =>
        obtain ⟨a6, c6, a7, c7, rfl, rfl, hs6, hs7, hd7⟩ := hcut
        have m6 := hs6.hle
        have m6' := hs6.hcap
        have m7 := hs7.hle
        have m7' := hs7.hcap
        unfold maxLen at m6' m7'
        have hn1' : n1 ≤ n := by have := dueL_len lo M; rw [hD1, hn1, hMl] at this; exact this
        have hn2' : n2 ≤ n := by have := dueL_len hi' M; rw [hD2, hn2, hMl] at this; exact this
        have HS6 : Hid (StrsAt wc a6 n1 c6 D1) := hs6
        have HS7 : Hid (StrsAt wc a7 n2 c7 D2) := hs7
        have HSc : Hid (StrsAt wc an n cn ns) := HSN.out.below (Nat.le_refl _) hd7.bel
        have HD7 : Hid (DIn wc (fun k => k < g) g 0 [] M) := hd7.d
        have HBC : Hid (Below w.heap.size w wc) := HBW.out.trans (hd7.bel.mono HBW.out.size)
        have HM1 : Hid (∀ i, i < n → (nthD M i).1 = ns.getD i ⟨#[]⟩) := fun i hi => by rw [← nms_getD, hM.out]
        have HP1 : Hid (∀ i, i < n → hasB D1 (nthD M i).1 = past lo (nthD M i).2 ∧ hasB D2 (nthD M i).1 = past hi' (nthD M i).2) := fun i hi => by
          rw [← hD1, ← hD2]
          exact ⟨mem_due hndM (by omega), mem_due hndM (by omega)⟩
        have HP2 : Hid (∀ i, i < n → past hi' (nthD M i).2 = true → (dueL hi' (M.take i)).length < n2 ∧ D2.getD (dueL hi' (M.take i)).length ⟨#[]⟩ = (nthD M i).1 ∧ (dueL hi' (M.take (i + 1))).length = (dueL hi' (M.take i)).length + 1) := fun i hi hp => by
          have := due_at (now := hi') (M := M) (i := i) (by omega) hp
          rw [hD2, hn2] at this
          exact ⟨this.1, this.2, by rw [dueL_yes (by omega) hp]; simp⟩
        have HP3 : Hid (∀ i, i < n → past hi' (nthD M i).2 = false → (dueL hi' (M.take (i + 1))).length = (dueL hi' (M.take i)).length) := fun i hi hp => by rw [dueL_no (by omega) hp]
        have HP4 : Hid (∀ i, past lo (nthD M i).2 = true → past hi' (nthD M i).2 = true) := fun i hp => past_mono hle hp
        have HP5 : Hid ((dueL hi' (M.take n)).length = n2 ∧ (dueL hi' (M.take 0)).length = 0) := ⟨by rw [← hMl, List.take_length, hD2, hn2], rfl⟩
        have HMl := Hid.mk' hMl
        clear hlo hhi hle hD1 hD2 hn1 hn2 hdw HD1 HD2 x0 x1 hs0 hs6 hs7 hd7 HSN HBW hndM hMl
        go_wp2
        go_loopw [14, 13] (fun v14 v13 wq => ∃ (i k : Nat), v14 = .int .i64 i ∧ i ≤ n ∧ v13 = .int .i64 k ∧ Hid ((dueL hi' (M.take i)).length = k) ∧ k ≤ n2 ∧ Below wc.heap.size wc wq) (fun v14 _ _ => n + 1 - (intOf v14).toNat)
        case atStart => exact ⟨0, 0, rfl, Nat.zero_le _, rfl, HP5.out.2, Nat.zero_le _, Below.refl _ _⟩
        case round =>
          obtain ⟨j, k, rfl, hj, rfl, hk, hk2, hbq⟩ := hrel
          by_cases hjn : j < n
          · have hsn := HSc.out.below (Nat.le_refl _) hbq
            have h6 := HS6.out.below (Nat.le_refl _) hbq
            have h7 := HS7.out.below (Nat.le_refl _) hbq
            obtain ⟨bn, on_, rfl, hbn, hcn⟩ := hsn.at_ j hjn
            have hm1 := HM1.out j hjn
            obtain ⟨e1, e2⟩ := HP1.out j hjn
            rw [hm1] at e1 e2
            have hA6 : ∀ q, Calls Try.prog 31 #[.slice a6 n1 c6, .string (ns.getD j ⟨#[]⟩)] (wr.drewN q) fun e w' => e = .returned (.bool (past lo (nthD M j).2)) ∧ w' = wr.drewN q := fun q => by
              have := has_any a6 n1 c6 D1 (ns.getD j ⟨#[]⟩) (wr.drewN q) (h6.drewN q)
              rwa [e1] at this
            have hA7 : ∀ q, Calls Try.prog 31 #[.slice a7 n2 c7, .string (ns.getD j ⟨#[]⟩)] (wr.drewN q) fun e w' => e = .returned (.bool (past hi' (nthD M j).2)) ∧ w' = wr.drewN q := fun q => by
              have := has_any a7 n2 c7 D2 (ns.getD j ⟨#[]⟩) (wr.drewN q) (h7.drewN q)
              rwa [e2] at this
            have P2 := Hid.mk' (HP2.out j hjn)
            have P3 := Hid.mk' (HP3.out j hjn)
            have P4 := Hid.mk' (HP4.out j)
            have hjn' : (j : Int) < (n : Int) := by omega
            have H7 := Hid.mk' h7
            rw [hm1] at P2
            generalize ns.getD j ⟨#[]⟩ = f at *
            generalize past lo (nthD M j).2 = p1 at *
            generalize past hi' (nthD M j).2 = p2 at *
            clear hsn h6 h7 e1 e2 hm1
            cases p2 with
            | true =>
              obtain ⟨r1, r2, r3⟩ := P2.out rfl
              rw [hk.out] at r1 r2 r3
              obtain ⟨b7, o7, rfl, hb7, x7⟩ := H7.out.at_ k r1
              rw [r2] at x7
              have r1' : (k : Int) < (n2 : Int) := by omega
              have R3 := Hid.mk' r3
              clear P2 P3 P4 r2 r3 H7
              cases p1
              all_goals
                go_wp2_with fail
                go_quiet (first
                  | (go_at_call_of 31 (Value.slice a6 n1 c6); exact quiet1_same (hA6 _))
                  | (go_at_call_of 31 (Value.slice (some ⟨b7, o7, none⟩) n2 c7); exact quiet1_same (hA7 _)))
                go_wp2
                go_quiet (fail)
                go_wp2
                exact ⟨⟨j + 1, k + 1, by simp, by omega, by simp, R3.out, by omega, below_drewN hbq _⟩, by simp [intOf]; omega⟩
            | false =>
              have hp1 : p1 = false := by
                cases p1 with
                | false => rfl
                | true => exact absurd (P4.out rfl) (by simp)
              subst hp1
              have R3 : Hid ((dueL hi' (M.take (j + 1))).length = k) := (P3.out rfl).trans hk.out
              clear P2 P3 P4 H7
              go_wp2_with fail
              go_quiet (first
                | (go_at_call_of 31 (Value.slice a6 n1 c6); exact quiet1_same (hA6 _))
                | (go_at_call_of 31 (Value.slice a7 n2 c7); exact quiet1_same (hA7 _)))
              go_wp2
              exact ⟨⟨j + 1, k, by simp, by omega, rfl, R3.out, by omega, below_drewN hbq _⟩, by simp [intOf]; omega⟩
          · obtain rfl : n = j := by omega
            rw [HP5.out.1] at hk
            obtain rfl : n2 = k := hk.out
            have hnm : nms M = ns := hM.out
            have HDU : Hid (∀ w' : World, DIn w' (fun k => k < g) g 0 [] M → Calls Try.prog 26 #[.pointer (some ⟨g, 0, none⟩), .int .i64 1099511627776] w' fun e w'' => ∃ a c, e = .returned (.slice a n c) ∧ StrsAt w'' a n c ns ∧ Below w'.heap.size w' w'') := fun w' h => due_n w' _ g [] M _ h (by have := HMl.out; omega) ns n (by rw [dueL_max, hnm]) HL.out
            have HUN : Hid (∀ w' : World, DIn w' (fun k => k < g) g 0 [] M → Calls Try.prog 25 #[.pointer (some ⟨g, 0, none⟩)] w' fun e w'' => e = .returned (.slice (some ⟨w'.heap.size, 0, none⟩) n n) ∧ StrsAt w'' (some ⟨w'.heap.size, 0, none⟩) n n ns ∧ Below w'.heap.size w' w'') := fun w' h => by
              have := under_w w' _ g [] M h (by have := HMl.out; omega)
              rw [HMl.out, hnm] at this
              exact this
            have HSM : Hid (∀ (w' : World) (a : Option Addr) (c : Nat), StrsAt w' a n c ns → StrsAt w' an n cn ns → Calls Try.prog 23 #[.slice a n c, .slice an n cn] w' fun e w'' => e = .returned (.bool true) ∧ Below w'.heap.size w' w'') := fun w' a c h h' => by
              have := same_any a an n n c cn ns ns w' h h'
              rwa [decide_eq_true rfl] at this
            have hdr := HD7.out.same hbq
            have hsr := HSc.out.below (Nat.le_refl _) hbq
            have hdu := HDU.out wr hdr
            have HBR : Hid (Below w.heap.size w wr) := HBC.out.trans (hbq.mono HBC.out.size)
            clear hnm hbq HBC
            go_wp2_with (first
              | (go_at_call 26; refine hdu.mono ?_; rintro e w8 ⟨a8, c8, rfl, hs8, hb8⟩; have hsm8 := HSM.out w8 a8 c8 hs8 (hsr.below (Nat.le_refl _) hb8); clear hdu)
              | (go_at_call_of 23 (Value.slice a8 n c8); refine hsm8.mono ?_; rintro e w9 ⟨rfl, hb9⟩; clear hsm8; have hun := HUN.out w9 ((hdr.same hb8).same hb9))
              | (go_at_call 25; refine hun.mono ?_; rintro e w10 ⟨rfl, hs10, hb10⟩; clear hun; have hsm10 := HSM.out w10 _ n hs10 (((hsr.below (Nat.le_refl _) hb8).below (Nat.le_refl _) hb9).below (Nat.le_refl _) hb10))
              | (go_at_call_of 23 (Value.slice (some ⟨w9.heap.size, 0, none⟩) n n); refine hsm10.mono ?_; rintro e w11 ⟨rfl, hb11⟩))
            go_ret
            exact ⟨rfl, HBR.out.trans ((((hb8.mono HBR.out.size).trans (hb9.mono (Nat.le_trans HBR.out.size hb8.size))).trans (hb10.mono (Nat.le_trans HBR.out.size (Nat.le_trans hb8.size hb9.size)))).trans (hb11.mono (Nat.le_trans HBR.out.size (Nat.le_trans hb8.size (Nat.le_trans hb9.size hb10.size)))))⟩

end Go.Proofs.Ythobihlnjcphaaa
