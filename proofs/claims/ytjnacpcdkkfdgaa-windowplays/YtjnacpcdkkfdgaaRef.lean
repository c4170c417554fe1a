/-
  What New, All, Count and Add of the document's window do, each as a contract. Conditions: the ticks lie where they are said to lie; they are cut, and at most 1000; the span is one that may be.
-/
import Derived.Test.YtjnacpcdkkfdgaaApp
import Derived.Deep.CutRange
namespace Go.Proofs.Ytjnacpcdkkfdgaa
open Go.ChangeShapes Go.WideShapes Go.ChangeAt Go.RowKit

theorem all_take (s t : Int) (l : List Int) (i : Nat) (h : i < l.length) : allR s t (l.take (i + 1)) = allR s t (l.take i) ++ (if lateR (l.getD i 0) s t then [l.getD i 0] else []) := by
  unfold allR
  rw [List.take_succ_eq_append_getElem h, List.filter_append]
  simp [List.filter_cons, List.getD, List.getElem?_eq_getElem h]

theorem rnew_any (n : Int) (w : World) :
    Calls Try.prog 10 #[.int .i64 n] w fun e w' => e = .returned (.agg #[.int .i64 (spanI n), .slice none 0 0, .int .i64 0]) ∧ Below w.heap.size w w' := by
  go_enter Try.func10, Try.ntmps10
  go_wp2_with (go_at_call 25; refine (rspan_any _ _).mono ?_; rintro e w' ⟨rfl, rfl⟩)
  refine bodyPost_ret (v := .agg #[.int .i64 (spanI n), .slice none 0 0, .int .i64 0]) (by simp [results, Try.results10, go_sem]) rfl ?_
  exact ⟨rfl, (Below.refl _ _).alloc (Nat.le_refl _) _⟩

theorem mem_getD {l : List Int} {i : Nat} (h : i < l.length) : l.getD i 0 ∈ l := by
  rw [List.getD_eq_getElem?_getD, List.getElem?_eq_getElem h]
  exact List.getElem_mem h

set_option maxHeartbeats 1000000 in
set_option maxRecDepth 100000 in
theorem rall_any (w : World) (s t : Int) (a : Option Addr) (n c : Nat) (zs : List Int) (hz : IntsAt w a n c zs) (hs : 1 ≤ s ∧ s ≤ 1048576) (htk : ∀ x ∈ zs, Tk x) (hn : n ≤ 1000) :
    Calls Try.prog 18 #[.agg #[.int .i64 s, .slice a n c, .int .i64 t]] w fun e w' => ∃ v, e = .returned v ∧ w'.ownsRow (w.heap.size + 1) 3 1 v (allR s t zs).length (ic (allR s t zs)) ∧ Below w.heap.size w w' := by
  have h1 := hz.hle
  have h2 := hz.hcap
  unfold maxLen at h2
  have hb : Below w.heap.size w (w.alloc (.cells #[.int .i64 s, .slice a n c, .int .i64 t] 28)) := (Below.refl _ w).alloc (Nat.le_refl _) _
  have HZ : Hid (IntsAt (w.alloc (.cells #[.int .i64 s, .slice a n c, .int .i64 t] 28)) a n c zs) := hz.below hb
  have HZL : Hid (∀ x, a = some x → 0 < n → x.block < w.heap.size) := fun x hx h0 => by
    obtain ⟨b, off, e, hlt, -⟩ := hz.at_ 0 h0
    rw [hx] at e
    cases e
    exact hlt
  have HB : Hid (Below w.heap.size w (w.alloc (.cells #[.int .i64 s, .slice a n c, .int .i64 t] 28))) := hb
  have HL : Hid (zs.length = n) := hz.hlen
  have HTK : Hid (∀ x ∈ zs, Tk x) := htk
  have hw9 := heap_alloc_new w (.cells #[.int .i64 s, .slice a n c, .int .i64 t] 28)
  have hsz : (w.alloc (.cells #[.int .i64 s, .slice a n c, .int .i64 t] 28)).heap.size = w.heap.size + 1 := by simp
  have HW9 : Hid ((w.alloc (.cells #[.int .i64 s, .slice a n c, .int .i64 t] 28)).heap[w.heap.size]? = some (.cells #[.int .i64 s, .slice a n c, .int .i64 t] 28 (0, 0)) ∧ (w.alloc (.cells #[.int .i64 s, .slice a n c, .int .i64 t] 28)).heap.size = w.heap.size + 1) := ⟨hw9, hsz⟩
  clear hz hb htk hw9 hsz
  go_enter Try.func18, Try.ntmps18
  go_wp2
  generalize w.alloc (.cells #[.int .i64 s, .slice a n c, .int .i64 t] 28) = w9 at *
  generalize hg : w.heap.size = g at *
  have HG : Hid (w.heap.size = g) := hg
  clear hg
  go_loopw [3, 4] (fun vo vi wr => ∃ (i : Nat), vi = .int .i64 i ∧ i ≤ n ∧ wr.ownsRow (g + 1) 3 1 vo (allR s t (zs.take i)).length (ic (allR s t (zs.take i))) ∧ Keep (fun k => k < g + 1) w9 wr) (fun _ vi _ => n - (intOf vi).toNat)
  case atStart => exact ⟨0, rfl, Nat.zero_le _, World.ownsRow_nil _ _ _ _, Keep.refl _ _⟩
  case round =>
    obtain ⟨i, rfl, hi1, hrow, hkr⟩ := hrel
    have hgb : wr.heap[g]? = some (.cells #[.int .i64 s, .slice a n c, .int .i64 t] 28 (0, 0)) := by
      rw [hkr.block g (by have := HW9.out.2; omega) (by omega)]
      exact HW9.out.1
    obtain ⟨d0, d1, d2, hl⟩ := blk3 hgb
    have hgs : g + 1 ≤ wr.heap.size := by omega
    have HKR : Hid (Keep (fun k => k < g + 1) w9 wr) := hkr
    by_cases hc : i < n
    · have hll := all_length s t (zs.take i)
      rw [List.length_take] at hll
      have hzr := HZ.out.keep hkr (fun x hx _ => by have := HZL.out x hx (by omega); omega)
      obtain ⟨b, off, rfl, -, hcell⟩ := hzr.at_ i hc
      have ht := all_take s t zs i (by rw [HL.out]; exact hc)
      have hlt := rlate_any (zs.getD i 0) s t (HTK.out _ (mem_getD (by rw [HL.out]; exact hc))) hs
      generalize hb : lateR (zs.getD i 0) s t = bl at *
      generalize zs.getD i 0 = x at *
      generalize hq : allR s t (zs.take i) = Q at *
      clear hzr hkr hgb hb hq
      cases bl with
      | true =>
        have HT : Hid (allR s t (zs.take (i + 1)) = Q ++ [x]) := ht
        clear ht
        go_wp2
        go_quiet (first | (go_at_call 28; exact Calls.quiet_of_same (hlt _)))
        have hrow2 : (wr.drewN nq).ownsRow (g + 1) 3 1 u3 Q.length (ic Q) := owns_keep hrow ((Keep.refl (fun _ => True) wr).drewN nq) (fun _ _ => trivial)
        go_wp2_with (at_builtin; refine wpList_int rfl _ _ rfl (g + 1) u3 Q.length Q x rfl (wr.drewN nq) hrow2 rfl ((Keep.refl _ _).alloc _) (heap_alloc_new _ _) (by omega) hgs ?_; intro gg cp w3 hown3 hgrow hat)
        have hk3 : Keep (fun k => k < g + 1) w9 w3 := HKR.out.trans ((((Keep.refl _ wr).drewN nq).alloc _).trans (keep_grown hgrow (fun k e => by have := (hrow.lt k e).1; omega)))
        refine ⟨⟨i + 1, by simp, by omega, ?_, hk3⟩, by simp [intOf]; omega⟩
        rw [HT.out, List.length_append]
        have e1 : ic (Q ++ [x]) = ic Q ++ [.int .i64 x] := by simp [ic]
        rw [e1]
        exact hown3
      | false =>
        have ht2 : allR s t (zs.take (i + 1)) = Q := by rw [ht]; simp
        have HT : Hid (allR s t (zs.take (i + 1)) = Q) := ht2
        clear ht ht2
        go_wp2
        go_quiet (first | (go_at_call 28; exact Calls.quiet_of_same (hlt _)))
        go_wp2
        refine ⟨⟨i + 1, by simp, by omega, ?_, HKR.out.trans ((Keep.refl _ wr).drewN nq)⟩, by simp [intOf]; omega⟩
        rw [HT.out]
        exact owns_keep hrow ((Keep.refl (fun _ => True) wr).drewN nq) (fun _ _ => trivial)
    · obtain rfl : n = i := by omega
      rw [List.take_of_length_le (by rw [HL.out]; exact Nat.le_refl _)] at hrow
      have HR : Hid (wr.ownsRow (g + 1) 3 1 u3 (allR s t zs).length (ic (allR s t zs))) := hrow
      clear hrow hkr
      go_wp2
      go_ret
      obtain rfl := HG.out
      exact ⟨_, rfl, HR.out, HB.out.trans (HKR.out.below HB.out.size (fun k hk => by omega))⟩

end Go.Proofs.Ytjnacpcdkkfdgaa
