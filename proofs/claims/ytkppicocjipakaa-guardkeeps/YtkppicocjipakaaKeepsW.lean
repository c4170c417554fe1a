/-
  The walk of GuardKeeps: it returns true and turns nothing that was there. Conditions: the slices read as lists of ints.
-/
import Derived.Test.YtkppicocjipakaaSpareW
import Derived.Lib.SmallJoins
namespace Go.Proofs.Ytkppicocjipakaa
open Go.ChangeShapes Go.WideShapes Go.ChangeAt Go.RowKit Go.Joins

/-- A number below the length, whatever is asked. -/
theorem um_any (m : Nat) (z : Int) (h0 : 0 < m) (h1 : m ≤ 20) : ∃ k : Nat, k < m ∧ wrap64 ((IntKind.u64.wrap z).tmod (m : Int)) = (k : Int) := by
  obtain ⟨a, b⟩ := um_bd (m : Int) z (by omega) (by omega)
  exact ⟨(wrap64 ((IntKind.u64.wrap z).tmod (m : Int))).toNat, by omega, by omega⟩
theorem wrap_nat (m : Nat) (h1 : m ≤ 20) : IntKind.u64.wrap (m : Int) = (m : Int) := by
  rw [IntKind.wrap_u64]
  omega

theorem fell_n (x y g : Int) (h : y < x → ¬ y < g) (w : World) :
    Calls Try.prog 21 #[.int .i64 x, .int .i64 y, .int .i64 g] w fun r w' => r = .returned (.bool false) ∧ w' = w := by
  have e : (decide (y < x) && decide (y < g)) = false := by
    by_cases h0 : y < x
    · rw [decide_eq_false (h h0), Bool.and_false]
    · rw [decide_eq_false h0]
      rfl
  rw [← e]
  exact fell_any x y g w

/-- What a round asks: nothing falls past the guard. -/
theorem keeps_facts {A L : List Int} {n k : Nat} {E G : Int} (h : Kp A L n E G) (h20 : A.length ≤ 20) (h1 : 1 ≤ E) (h8 : E ≤ 8) (hk : k < L.length) (hm : mayB L (k : Int) E G = true) :
    capI (act (L.set k 1) : Nat) E ≤ capI (act L : Nat) E ∧ (capI (act (L.set k 1) : Nat) E < capI (act L : Nat) E → ¬ capI (act (L.set k 1) : Nat) E < G) := by
  have hl := act_le L
  have hl2 := h.len
  by_cases h0 : L.getD k 0 = 0
  · have hg := may_le hk h0 hm
    have ha := act_left hk h0
    have e : ((act L : Nat) : Int) - 1 = (act (L.set k 1) : Nat) := by omega
    rw [e] at hg
    refine ⟨?_, fun _ => by omega⟩
    rw [cap_lin (by omega) h1 h8, cap_lin (by omega) h1 h8]
    exact mul_le (by omega) (by omega)
  · rw [act_same hk h0]
    exact ⟨Int.le_refl _, fun h => by omega⟩

set_option maxHeartbeats 2000000 in
set_option maxRecDepth 100000 in
theorem keeps_walk (a : Option Addr) (len cap : Nat) (zs : List Int) (a' : Option Addr) (len' cap' : Nat) (zs' : List Int) (y z : Int) (w : World) (hr : IntsAt w a len cap zs) (hn : a = none → len = 0 ∧ cap = 0) (hr' : IntsAt w a' len' cap' zs') :
    Calls Try.prog 4 #[.slice a len cap, .slice a' len' cap', .agg #[.int .i64 y, .int .i64 z]] w fun e w' => e = .returned (.bool true) ∧ Below w.heap.size w w' := by
  have hle := hr.hle
  have hle' := hr'.hle
  have hcap' := hr'.hcap
  unfold maxLen at hcap'
  obtain ⟨m, hm⟩ : ∃ m, min len 20 = m := ⟨_, rfl⟩
  have h20 : m ≤ 20 := by omega
  obtain ⟨A, hA⟩ : ∃ A, zs.take m = A := ⟨_, rfl⟩
  have HR : Hid (IntsAt w a m cap A) := by rw [← hA]; exact hr.take (by omega)
  have HR' : Hid (IntsAt w a' len' cap' zs') := hr'
  have HA : Hid (A.length ≤ 20) := by have := HR.out.hlen; show A.length ≤ 20; omega
  have HN : Hid (a = none → m = 0 ∧ cap = 0) := fun h => ⟨by have := hn h; omega, (hn h).2⟩
  have HM : Hid (len ≤ cap ∧ min len 20 = m) := ⟨hle, hm⟩
  obtain ⟨U, hU⟩ : ∃ U, wrap64 ((IntKind.u64.wrap y).tmod 8) = U := ⟨_, rfl⟩
  have hUb := um_bd 8 y (by decide) (by decide)
  rw [hU] at hUb
  obtain ⟨hU0, hU1⟩ := hUb
  obtain ⟨G, hG⟩ : ∃ G, near z = G := ⟨_, rfl⟩
  have hG0 : -1000 ≤ G := by rw [← hG]; exact near_lo z
  have hG1 : G ≤ 1000 := by rw [← hG]; exact near_hi z
  clear hr hr' hn hm hA zs hle
  go_enter Try.func4, Try.ntmps4
  go_wp2_with fail
  obtain ⟨w0, hw0⟩ : ∃ w0, w0 = w.alloc (.cells #[.int .i64 y, .int .i64 z] 33) := ⟨_, rfl⟩
  have hb0 : Below w.heap.size w w0 := by rw [hw0]; exact (Below.refl _ w).alloc (Nat.le_refl _) _
  have hs0 : w.heap.size < w0.heap.size := by rw [hw0]; simp
  have c1 : w0.cell? ⟨w.heap.size, 0, none⟩ = some (.int .i64 y) := by rw [hw0]; simp [go_sem]
  have c2 : w0.cell? ⟨w.heap.size, 1, none⟩ = some (.int .i64 z) := by rw [hw0]; simp [go_sem]
  rw [← hw0]
  clear hw0
  refine (lives_any w0).mono ?_
  rintro e w1 ⟨rfl, hb1⟩
  have d1 := (hb1.cell (p := ⟨w.heap.size, 0, none⟩) hs0).trans c1
  have d2 := (hb1.cell (p := ⟨w.heap.size, 1, none⟩) hs0).trans c2
  have hs1 : w.heap.size < w1.heap.size := Nat.lt_of_lt_of_le hs0 hb1.size
  have hbw : Below w.heap.size w w1 := hb0.trans (hb1.mono (by omega))
  have HB : Hid (Below w.heap.size w w1) := hbw
  have HR1 : Hid _ := HR.out.below hbw
  clear hb0 hb1 hs0 c1 c2 hbw HR
  go_wp2_with fail
  refine (few_any a len cap m HM.out.1 HM.out.2 _).mono ?_
  rintro e w' ⟨rfl, hw⟩
  obtain rfl : w1 = w' := hw.symm
  clear hw HM
  go_wp2_with (at_builtin; refine wpList_ints _ rfl _ _ rfl w1.heap.size _ 0 [] A A rfl (World.ownsRow_nil _ _ _ _) a m cap rfl HR1.out HN.out (by omega) (Nat.le_refl _) rfl m (by omega) ?_)
  intro v2 w2 hown2 hgr2
  have hb2 : Below w1.heap.size w1 w2 := (Below.refl _ w1).grown hgr2 (Nat.le_refl _) (fun j hj => by simp [Value.ownBlock] at hj)
  have f1 := (hb2.cell (p := ⟨w.heap.size, 0, none⟩) hs1).trans d1
  have f2 := (hb2.cell (p := ⟨w.heap.size, 1, none⟩) hs1).trans d2
  have hbw2 : Below w.heap.size w w2 := HB.out.trans (hb2.mono HB.out.size)
  have HB2 : Hid (Below w.heap.size w w2) := hbw2
  have hown3 := ownsRow_le hown2 HB.out.size
  have HO : Hid (w2.ownsRow w.heap.size 3 1 v2 m (ic A)) := hown3
  clear hgr2 hb2 hbw2 hown2 hown3 d1 d2 hs1 HB HR1 HN
  generalize hq : w.heap.size = q at f1 f2
  clear hq
  go_wp2_with fail
  go_quiet (first
    | (go_at_call 10; exact Calls.quiet_of_same (near_any _ _)))
  rw [hG]
  obtain ⟨E, hE⟩ : ∃ E, 1 + U = E := ⟨_, rfl⟩
  have hE1 : 1 ≤ E := by omega
  have hE8 : E ≤ 8 := by omega
  rw [hE]
  have hbd : Below w2.heap.size w2 (w2.drewN nq) := ⟨rfl, rfl, rfl, Nat.le_refl _, fun _ _ => rfl⟩
  have HB3 : Hid (Below w.heap.size w (w2.drewN nq)) := HB2.out.trans (hbd.mono HB2.out.size)
  have hown : (w2.drewN nq).ownsRow w.heap.size 3 1 v2 m (ic A) := owns_below HO.out hbd
  clear hE hG hU hU0 hU1 f1 f2 hbd HB2 HO
  generalize w2.drewN nq = w3 at *
  clear nq w2 w1
  obtain ⟨a5, cap5, rfl, hI5, -⟩ := owns_ints hown
  have hle5 := hI5.hle
  have hcap5 := hI5.hcap
  unfold maxLen at hcap5
  obtain ⟨D, hD⟩ : ∃ D, (act A : Int) - (down (act A) E G : Nat) = D := ⟨_, rfl⟩
  have HD : Hid (∀ L n, Kp A L n E G → (n : Int) ≤ D) := fun L n h => by rw [← hD]; exact h.le
  have hsp := spare_n a5 m cap5 A E G D hD w3 hI5
  have HO3 : Hid (w3.ownsRow w.heap.size 3 1 (.slice a5 m cap5) m (ic A)) := hown
  clear hI5 hD hown
  go_wp2_with fail
  refine hsp.mono ?_
  rintro e w' ⟨rfl, hw⟩
  obtain rfl : w3 = w' := hw.symm
  clear hw hsp
  go_wp2
  go_loopw [11, 12] (fun vn vi wr => ∃ (i n : Nat) (L : List Int), i ≤ len' ∧ i ≤ 40 ∧ n ≤ i ∧ vi = .int .i64 i ∧ vn = .int .i64 n ∧ Hid (Kp A L n E G) ∧ wr.ownsRow w.heap.size 3 1 (.slice a5 m cap5) m (ic L) ∧ Below w.heap.size w wr) (fun _ vi _ => 40 - (intOf vi).toNat)
  case atStart => exact ⟨0, 0, A, Nat.zero_le _, by omega, Nat.le_refl _, rfl, rfl, Kp.start A E G, HO3.out, HB3.out⟩
  case round =>
    clear HO3 HB3
    obtain ⟨i, n, L, hi, hi40, hni, rfl, rfl, hkp, hown, hbel⟩ := hrel
    by_cases hc : i < len' ∧ i < 40
    · obtain ⟨hc1, hc2⟩ := hc
      by_cases hm0 : m = 0
      · subst hm0
        clear hown hkp
        go_wp2
        go_ret
        exact ⟨rfl, hbel⟩
      · obtain ⟨b, off, rfl, hbb, hcell0⟩ := HR'.out.at_ i hc1
        have hask := (hbel.cell (p := ⟨b, off + i, none⟩) hbb).trans hcell0
        generalize zs'.getD i 0 = t at hask
        obtain ⟨k, hkm, hkt⟩ := um_any m t (by omega) h20
        have hwm := wrap_nat m h20
        obtain ⟨g5, cp, he5⟩ := ownsRow_form hown (by omega)
        cases he5
        obtain ⟨a6, cap6, he6, hI, -⟩ := owns_ints hown
        cases he6
        have hkl : k < L.length := by rw [hI.hlen]; exact hkm
        obtain ⟨C, hC⟩ : ∃ C, capI (act L : Nat) E = C := ⟨_, rfl⟩
        obtain ⟨M, hM⟩ : ∃ M, mayB L (k : Int) E G = M := ⟨_, rfl⟩
        obtain ⟨x, hx⟩ : ∃ x, L.getD k 0 = x := ⟨_, rfl⟩
        have hcap := cap_n _ m cap5 L E C hC wr hI
        have hmay := may_n _ m cap5 L (k : Int) E G M hM wr hI
        clear hcell0
        go_wp2_with fail
        rw [hkt]
        clear hkt hwm hask
        refine hcap.mono ?_
        rintro e w' ⟨rfl, hw⟩
        obtain rfl : wr = w' := hw.symm
        clear hw hcap
        go_wp2_with fail
        refine hmay.mono ?_
        rintro e w4 ⟨rfl, hb4⟩
        have hown4 := owns_below hown hb4
        have hbel4 : Below w.heap.size w w4 := hbel.trans (hb4.mono hbel.size)
        have hcell : w4.cell? ⟨g5, k, none⟩ = some (.int .i64 x) := by
          rw [hown4.cellAt k (by omega), ← hx]
          simp [ic, List.getD, hkl]
        have hfz := hown4.frozenAt k
        have hg5 : Hid (w.heap.size ≤ g5) := (hown4.lt g5 rfl).1
        have HO : Hid (w4.ownsRow w.heap.size 3 1 (.slice (some ⟨g5, 0, none⟩) m cap5) m (ic L)) := hown4
        have HB : Hid _ := hbel4
        clear hown hown4 hb4 hbel hbel4 hmay hI wr
        cases M with
        | false =>
          obtain ⟨h0, -⟩ := not_may hkl hM
          obtain rfl : x = 0 := by rw [← hx]; exact h0
          obtain ⟨a7, cap7, he7, hI7, -⟩ := owns_ints HO.out
          cases he7
          have hcap4 := cap_n _ m cap5 L E C hC w4 hI7
          have hfell := fell_n C C G (fun h => by omega) w4
          clear hM hx h0 hC hI7
          go_wp2_with fail
          refine hcap4.mono ?_
          rintro e w' ⟨rfl, hw⟩
          obtain rfl : w4 = w' := hw.symm
          clear hw hcap4
          go_wp2_with fail
          refine hfell.mono ?_
          rintro e w' ⟨rfl, hw⟩
          obtain rfl : w4 = w' := hw.symm
          clear hw hfell
          go_wp2
          go_roundw
          case rel => exact ⟨i + 1, n, L, by omega, by omega, by omega, by go_num, by go_num, hkp, HO.out, HB.out⟩
          case measure => simp [intOf]; omega
        | true =>
          obtain ⟨q1, q2⟩ := keeps_facts hkp.out HA.out hE1 hE8 hkl hM
          rw [hC] at q1 q2
          obtain ⟨C2, hC2⟩ : ∃ C2, capI (act (L.set k 1) : Nat) E = C2 := ⟨_, rfl⟩
          rw [hC2] at q1 q2
          obtain ⟨w5, hw5⟩ : ∃ w5, w5 = w4.setCell ⟨g5, k, none⟩ (.int .i64 1) := ⟨_, rfl⟩
          have h5 := (HO.out.stored k (.int .i64 1)).1
          rw [ic_set, ← hw5] at h5
          have HB5 : Hid (Below w.heap.size w w5) := by
            rw [hw5]
            exact HB.out.setCell hg5.out _
          obtain ⟨a7, cap7, he7, hI7, -⟩ := owns_ints h5
          cases he7
          have hcap5' := cap_n _ m cap5 (L.set k 1) E C2 hC2 w5 hI7
          have hfell := fell_n C C2 G q2 w5
          have HO5 : Hid (w5.ownsRow w.heap.size 3 1 (.slice (some ⟨g5, 0, none⟩) m cap5) m (ic (L.set k 1))) := h5
          by_cases hx0 : x = 0
          · have HK : Hid (Kp A (L.set k 1) (n + 1) E G) := hkp.out.leave hkl (by rw [hx]; exact hx0) hM
            subst hx0
            clear hM hx hC hC2 hI7 h5 q2 HO HB hkp
            go_wp2_with fail
            rw [← hw5]
            clear hw5 hcell hfz
            refine hcap5'.mono ?_
            rintro e w' ⟨rfl, hw⟩
            obtain rfl : w5 = w' := hw.symm
            clear hw hcap5'
            go_wp2_with fail
            refine hfell.mono ?_
            rintro e w' ⟨rfl, hw⟩
            obtain rfl : w5 = w' := hw.symm
            clear hw hfell
            go_wp2
            go_roundw
            case rel => exact ⟨i + 1, n + 1, L.set k 1, by omega, by omega, by omega, by go_num, by go_num, HK, HO5.out, HB5.out⟩
            case measure => simp [intOf]; omega
          · have HK : Hid (Kp A (L.set k 1) n E G) := hkp.out.other hkl (by rw [hx]; exact hx0)
            clear hM hx hC hC2 hI7 h5 q2 HO HB hkp
            go_wp2_with fail
            rw [← hw5]
            clear hw5 hcell hfz
            refine hcap5'.mono ?_
            rintro e w' ⟨rfl, hw⟩
            obtain rfl : w5 = w' := hw.symm
            clear hw hcap5'
            go_wp2_with fail
            refine hfell.mono ?_
            rintro e w' ⟨rfl, hw⟩
            obtain rfl : w5 = w' := hw.symm
            clear hw hfell
            go_wp2
            go_roundw
            case rel => exact ⟨i + 1, n, L.set k 1, by omega, by omega, by omega, by go_num, by go_num, HK, HO5.out, HB5.out⟩
            case measure => simp [intOf]; omega
    · have h2 : (n : Int) ≤ D := HD.out _ _ hkp.out
      have hexit : (i = 40 ∧ 40 < len') ∨ len' = i := by omega
      clear hkp hown hc
      rcases hexit with ⟨rfl, h3⟩ | rfl
      all_goals
        go_wp2
        go_ret
        exact ⟨rfl, hbel⟩

end Go.Proofs.Ytkppicocjipakaa
