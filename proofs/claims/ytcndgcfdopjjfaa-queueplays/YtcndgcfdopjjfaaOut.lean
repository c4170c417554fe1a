/-
  What takeOut does. Conditions: the queue lies where it is said to lie; there is space for those that are taken out; the ids lie in none of the queue's blocks.
-/
import Derived.Test.YtcndgcfdopjjfaaOutP
namespace Go.Proofs.Ytcndgcfdopjjfaa
open Go.ChangeShapes Go.WideShapes Go.ChangeAt Go.RowKit

set_option maxHeartbeats 1000000 in
set_option maxRecDepth 100000 in
theorem takeOut_row (w : World) (A : Nat → Prop) (g c b R m cap s r : Nat) (L l : List Wt) (ia : Option Addr) (N C : Nat) (ids : List Int) (hi : IntsAt w ia N C ids) (hA : ∀ x, ia = some x → A x.block)
    (hb : w.heap[g]? = some (.cells #[.slice (some ⟨b, 0, none⟩) L.length cap, .chan (some c)] 62 (0, 0))) (hc : w.heap[c]? = some (.chan R (Array.replicate m tok) false s r false)) (hcA : ¬ A c) (hbA : ¬ A b)
    (hr : w.heap[b]? = some (.cells (flat l).toArray 66 (0, 0))) (hl : l.length = cap) (hcm : cap ≤ maxLen) (hle : L.length ≤ cap) (ht : l.take L.length = L) (hR : m + L.length ≤ R) :
    Calls Try.prog 32 #[.pointer (some ⟨g, 0, none⟩), .slice ia N C] w fun e w' => e = .returned (.tuple #[]) ∧
      ∃ wr, w' = wr.setCell ⟨g, 0, none⟩ (.slice (some ⟨b, 0, none⟩) (without ids L).length cap) ∧ Tk w A g c b R m cap L l ids L.length wr := by
  obtain ⟨c0, c1, hgl⟩ := blk2 hb
  have hcg : c ≠ g := fun e => by rw [e, hb] at hc; simp at hc
  have hcb : c ≠ b := fun e => by rw [e, hr] at hc; simp at hc
  have hgb : g ≠ b := fun e => by rw [e, hr] at hb; simp at hb
  have HI : Hid (IntsAt w ia N C ids) := hi
  have hN := hi.hlen
  have hNC := hi.hle
  have hCm := hi.hcap
  have HT0 : Hid (Tk w A g c b R m cap L l ids 0 w) := ⟨⟨l, hl, by simp [without], fun _ _ => rfl, hr⟩, ⟨s, r, by simpa [without] using hc⟩, rfl, Keep.refl _ _⟩
  have HB : Hid (∀ wr : World, wr.heap[g]? = w.heap[g]? → wr.cell? ⟨g, 0, none⟩ = some (.slice (some ⟨b, 0, none⟩) L.length cap) ∧ wr.cell? ⟨g, 1, none⟩ = some (.chan (some c)) ∧ wr.frozen? ⟨g, 0, none⟩ = false ∧ g < wr.heap.size) := fun wr he =>
    ⟨(blk2 (he.trans hb)).1, (blk2 (he.trans hb)).2.1, fz2 (he.trans hb) 0, (blk2 (he.trans hb)).2.2⟩
  unfold maxLen at hcm hCm
  have hn : L.length ≤ 9223372036854775807 := by omega
  generalize hLn : L.length = n at *
  clear hb hc hr hi
  go_enter Try.func32, Try.ntmps32
  go_wp2
  go_step3
  go_wp2
  go_step3
  go_wp2
  go_loopw [4, 19] (fun v4 v19 wr => ∃ i : Nat, v19 = .int .i64 i ∧ i ≤ n ∧ v4 = .slice (some ⟨b, 0, none⟩) (without ids (L.take i)).length cap ∧ Tk w A g c b R m cap L l ids i wr) (fun _ v19 _ => n + 1 - (intOf v19).toNat)
  case atStart => exact ⟨0, rfl, Nat.zero_le _, by simp [without], HT0.out⟩
  case round =>
    obtain ⟨i, rfl, hi1, rfl, hT⟩ := hrel
    have HT : Hid (Tk w A g c b R m cap L l ids i wr) := hT
    by_cases hin : i < n
    · obtain ⟨⟨l', t1, t2, t3, t4⟩, ⟨s', r', t5⟩, t6, t7⟩ := hT
      have hx := row_cells t4 (show i < l'.length by omega)
      have e3 : nthW l' i = nthW L i := by rw [t3 i (Nat.le_refl _), ← ht]; exact (nthW_take hin).symm
      rw [e3] at hx
      obtain ⟨hx1, hx2⟩ := hx
      clear t1 t2 t3 t4 t5 t6 t7 e3
      generalize hp : nthW L i = p at *
      have hF := fidx_le p.1 ids
      have HN : Hid (∀ j, j < fidx p.1 ids → ids.getD j 0 ≠ p.1) := fidx_lt p.1 ids
      have HF : Hid (fidx p.1 ids < ids.length → ids.getD (fidx p.1 ids) 0 = p.1) := fidx_at p.1 ids
      have HC : Hid (fidx p.1 ids < ids.length ↔ p.1 ∈ ids) := fidx_mem p.1 ids
      rw [hN] at hF HF HC
      have HP : Hid (nthW L i = p) := hp
      have hlt : (without ids (L.take i)).length < cap := by
        have := without_len ids (L.take i)
        rw [List.length_take] at this
        omega
      generalize fidx p.1 ids = F at *
      go_upto_block 1 with fail
      go_cut [4, 6, 8] from 21 to 42 (fun v4 _ _ w4 => v4 = .slice (some ⟨b, 0, none⟩) (without ids (L.take (i + 1))).length cap ∧ Tk w A g c b R m cap L l ids (i + 1) w4)
      case first =>
        go_wp2
        go_loopw [25] (fun v25 w3 => ∃ j : Nat, v25 = .int .i64 j ∧ j ≤ F ∧ w3 = wr.alloc (.cells #[.int .i64 p.1, .int .i64 p.2] 66)) (fun v25 _ => N + 1 - (intOf v25).toNat)
        case atStart => exact ⟨0, rfl, Nat.zero_le _, rfl⟩
        case round =>
          obtain ⟨j, rfl, hj1, rfl⟩ := hrel
          have hT2 : Tk w A g c b R m cap L l ids i (wr.alloc (.cells #[.int .i64 p.1, .int .i64 p.2] 66)) := HT.out.below hgl ((Below.refl _ _).alloc (Nat.le_refl _) _)
          have HT2 : Hid (Tk w A g c b R m cap L l ids i (wr.alloc (.cells #[.int .i64 p.1, .int .i64 p.2] 66))) := hT2
          have y0 : (wr.alloc (.cells #[.int .i64 p.1, .int .i64 p.2] 66)).cell? ⟨wr.heap.size, 0, none⟩ = some (.int .i64 p.1) := (blk2 (heap_alloc_new wr (.cells #[.int .i64 p.1, .int .i64 p.2] 66))).1
          have y1 : (wr.alloc (.cells #[.int .i64 p.1, .int .i64 p.2] 66)).cell? ⟨wr.heap.size, 1, none⟩ = some (.int .i64 p.2) := (blk2 (heap_alloc_new wr (.cells #[.int .i64 p.1, .int .i64 p.2] 66))).2.1
          have y2 : wr.heap.size < (wr.alloc (.cells #[.int .i64 p.1, .int .i64 p.2] 66)).heap.size := by simp
          obtain ⟨g0, g1, g2, g3⟩ := HB.out _ hT2.gb
          have hI2 := HI.out.keep hT2.kp hA
          clear hT2
          generalize wr.alloc (.cells #[.int .i64 p.1, .int .i64 p.2] 66) = w3 at *
          by_cases hjn : j < N
          · obtain ⟨bi, oi, rfl, _, hxj⟩ := hI2.at_ j hjn
            by_cases hjF : j < F
            · have hne := HN.out j hjF
              have hne2 : (p.1 == ids.getD j 0) = false := by rw [beq_eq_false_iff_ne]; exact fun e => hne e.symm
              generalize ids.getD j 0 = y at *
              clear hI2 hne
              go_wp2
              exact ⟨⟨j + 1, by simp, by omega, trivial⟩, by simp [intOf]; omega⟩
            · obtain rfl : F = j := by omega
              have hex := HF.out hjn
              rw [hex] at hxj
              have hmem := HC.out.1 hjn
              clear hI2
              obtain ⟨s2, r2, hch⟩ := HT2.out.ch
              have hroom : m + (i - (without ids (L.take i)).length) < R := by omega
              have HD : Hid (∀ s r, Tk w A g c b R m cap L l ids (i + 1) (w3.setChan c R (Array.replicate (m + (i - (without ids (L.take i)).length) + 1) tok) false s r false)) := fun s r =>
                HT2.out.sent hcA hcg hcb (by omega) (by rw [HP.out]; simpa using hmem)
              have e4 : without ids (L.take (i + 1)) = without ids (L.take i) := by rw [take_snoc (by omega), without_snoc, HP.out, if_pos (by simpa using hmem), List.append_nil]
              go_upto_region 8 with fail
              refine wp_of_reg (fun fb fk fcs => ?_)
              refine Reg.op rfl rfl (fun K hK => ?_)
              go_simp
              refine hK _ _ ?_
              clear hK K
              refine Reg.op rfl rfl (fun K hK => ?_)
              go_simp
              refine hK _ _ ?_
              clear hK K
              refine Reg.op rfl rfl (fun K hK => ?_)
              go_simp
              refine hK _ _ ?_
              clear hK K
              refine Reg.op rfl rfl (fun K hK => ?_)
              go_simp
              refine hK _ _ ?_
              clear hK K
              refine Reg.op rfl rfl (fun K hK => ?_)
              go_simp
              refine hK _ _ ?_
              clear hK K
              refine Reg.send (c := c) (v := tok) (z := .tuple #[]) (w₁ := w3) rfl rfl (by simp [go_sem, execOp, Conc.scase, Act.eval, tok]) hch (by simpa using hroom) ?_
              rw [rep_push]
              refine Reg.done ?_
              clear hch
              go_wp2
              go_meet
              exact ⟨by rw [e4], HD.out _ _⟩
          · obtain rfl : N = j := by omega
            obtain rfl : F = N := by omega
            have hmem : ¬ p.1 ∈ ids := fun h => Nat.lt_irrefl _ (HC.out.2 h)
            have hT3 : Tk w A g c b R m cap L l ids i (w3.alloc (.cells #[.int .i64 p.1, .int .i64 p.2] 66)) := HT2.out.below hgl ((Below.refl _ _).alloc (Nat.le_refl _) _)
            have HL : Hid (Tk w A g c b R m cap L l ids (i + 1) ((w3.alloc (.cells #[.int .i64 p.1, .int .i64 p.2] 66)).setCells b ((without ids (L.take i)).length * 2) [.int .i64 p.1, .int .i64 p.2])) := by
              have := hT3.left hbA hcb hgb (by omega) (by rw [HP.out]; simpa using hmem) (by omega)
              rw [HP.out] at this
              exact this
            have e4 : (without ids (L.take (i + 1))).length = (without ids (L.take i)).length + 1 := by rw [take_snoc (by omega), without_snoc, HP.out, if_neg (by simpa using hmem)]; simp
            obtain ⟨l2, q1, _, _, q4⟩ := hT3.row
            have z0 : (w3.alloc (.cells #[.int .i64 p.1, .int .i64 p.2] 66)).cell? ⟨w3.heap.size, 0, none⟩ = some (.int .i64 p.1) := (blk2 (heap_alloc_new w3 (.cells #[.int .i64 p.1, .int .i64 p.2] 66))).1
            have z1 : (w3.alloc (.cells #[.int .i64 p.1, .int .i64 p.2] 66)).cell? ((⟨w3.heap.size, 0, none⟩ : Addr).add 1) = some (.int .i64 p.2) := (blk2 (heap_alloc_new w3 (.cells #[.int .i64 p.1, .int .i64 p.2] 66))).2.1
            clear hT3
            go_wp2_with (at_builtin; refine wpList_put rfl _ _ rfl b (without ids (L.take i)).length cap l2 p ⟨w3.heap.size, 0, none⟩ 1 rfl rfl q4 q1 hlt z0 z1 ?_)
            go_meet
            exact ⟨by rw [e4], HL.out⟩
      case rest =>
        obtain ⟨rfl, hT4⟩ := hcut
        go_wp2
        exact ⟨⟨i + 1, by simp, by omega, rfl, hT4⟩, by simp [intOf]; omega⟩
    · obtain rfl : n = i := by omega
      obtain ⟨g0, g1, g2, g3⟩ := HB.out _ hT.gb
      have e5 : L.take n = L := by rw [← hLn]; exact List.take_length
      rw [e5]
      clear hT
      go_wp2
      simp only [Exit.noGoto]
      go_end0
      exact ⟨rfl, _, rfl, HT.out⟩

end Go.Proofs.Ytcndgcfdopjjfaa
