/-
  What Text, Read and strings.SplitN at a comma answer, and the document's Text and Read, each as a contract. Conditions: the slices read as texts, at most 20, each of at most 20 bytes; the text that is read has at most 1000 bytes.
-/
import Derived.Test.YtcgnhkpclpecgaaDoorTextP
namespace Go.Proofs.YtcgnhkpclpecgaaDoor
open Go.ChangeShapes Go.WideShapes Go.ChangeAt Go.RowKit

theorem splitN_any (s : ByteArray) (hs : s.size ≤ 1000) (w : World) :
    Calls Tryd.prog 16 #[.string s, .string ⟨#[44]⟩, .int .i64 17] w fun e w' => ∃ c, e = .returned (.slice (some ⟨w.heap.size, 0, none⟩) (spl s).length c) ∧ StrsAt w' (some ⟨w.heap.size, 0, none⟩) (spl s).length c (spl s) ∧ Below w.heap.size w w' := by
  have hI : ∀ (x : ByteArray) (c : Array Value), x.size ≤ s.size → Calls Tryd.prog 32 #[.string x, .string ⟨#[44]⟩] (w.alloc (.cells c 9)) fun e w' => e = .returned (.int .i64 (Lib.indexB x ⟨#[44]⟩)) ∧ w' = w.alloc (.cells c 9) := fun x c _ => by
    refine (Tryd.strings_Index_one x 44 _).mono fun e w' ⟨he, hw⟩ => ⟨?_, hw⟩
    rw [he]
    show _ = Ending.returned (Value.int .i64 (Lib.index x.data.toList [44]))
    rw [Lib.index_one]
  have hC : Calls Tryd.prog 31 #[.string s, .string ⟨#[44]⟩] w fun e w' => e = .returned (.int .i64 (Lib.countB s ⟨#[44]⟩)) ∧ w' = w := by
    refine (Tryd.strings_Count_one s 44 w).mono fun e w' ⟨he, hw⟩ => ⟨?_, hw⟩
    rw [he]
    show _ = Ending.returned (Value.int .i64 ((Lib.count s.data.toList [44] : Nat) : Int))
    rw [Lib.count_one]
    rfl
  have c : Calls Tryd.prog 24 #[.string s, .string ⟨#[44]⟩, .int .i64 0, .int .i64 17] w fun e w' => e = .returned (.slice (some ⟨w.heap.size, 0, none⟩) (spl s).length (min 17 (s.size + 1))) ∧ w' = w.alloc (.cells (Lib.cellsOf (spl s) (min 17 (s.size + 1))) 9) :=
    Any.strings_genSplit_core Tryd.lays221 (by kernel_rfl) s ⟨#[44]⟩ 0 17 (min 17 (s.size + 1)) w (by omega) (by decide) (by decide) hI hC (by decide) (by decide) (by rw [if_neg (by decide)]; omega)
  have hl : (spl s).length ≤ min 17 (s.size + 1) := by
    have := Lib.splitB_length_le ⟨#[44]⟩ 0 (min 17 (s.size + 1) - 1) s
    show (Lib.splitB _ _ _ _).length ≤ _
    omega
  have HS : Hid (StrsAt (w.alloc (.cells (Lib.cellsOf (spl s) (min 17 (s.size + 1))) 9)) (some ⟨w.heap.size, 0, none⟩) (spl s).length (min 17 (s.size + 1)) (spl s)) := by
    have hb := heap_alloc_new w (.cells (Lib.cellsOf (spl s) (min 17 (s.size + 1))) 9)
    refine ⟨rfl, hl, by unfold maxLen; omega, fun j hj => ⟨w.heap.size, 0, rfl, by simp, ?_⟩⟩
    have : (Lib.cellsOf (spl s) (min 17 (s.size + 1)))[0 + j]? = some (.string ((spl s).getD j ⟨#[]⟩)) := by
      unfold Lib.cellsOf
      rw [List.getElem?_toArray, List.getElem?_append_left (by simpa using hj), Nat.zero_add]
      simp [List.getD, hj]
    rw [← this]
    simp only [World.cell?, hb]
    rfl
  have HB : Hid (Below w.heap.size w (w.alloc (.cells (Lib.cellsOf (spl s) (min 17 (s.size + 1))) 9))) := (Below.refl _ _).alloc (Nat.le_refl _) _
  generalize w.alloc (.cells (Lib.cellsOf (spl s) (min 17 (s.size + 1))) 9) = w1 at *
  generalize spl s = l at *
  generalize min 17 (s.size + 1) = c1 at *
  clear hI hC hl
  go_enter Tryd.func16, Tryd.ntmps16
  go_wp2_with fail
  refine c.mono ?_
  rintro e w2 ⟨rfl, rfl⟩
  clear c
  go_wp2
  go_ret
  exact ⟨c1, rfl, HS.out, HB.out⟩

theorem join_bytes : ∀ (l : List (List UInt8)), (∀ x ∈ l, x.length ≤ 20) → (Lib.join l [44]).length ≤ 21 * l.length
  | [], _ => Nat.le_refl _
  | [x], h => by
    rw [Lib.join_one]
    have := h x (by simp)
    simp
    omega
  | x :: y :: t, h => by
    rw [join_cons2]
    have ih := join_bytes (y :: t) (fun z hz => h z (by simp at hz ⊢; right; exact hz))
    have := h x (by simp)
    simp at ih ⊢
    omega
theorem text_size {l : List ByteArray} (h20 : l.length ≤ 20) (hs : ∀ s ∈ l, s.size ≤ 20) : (textB l).size ≤ 420 := by
  unfold textB
  split
  · decide
  · rw [mk_size]
    have := join_bytes (l.map (·.data.toList)) (fun x hx => by
      obtain ⟨s, hs', rfl⟩ := List.mem_map.1 hx
      have := hs s hs'
      rw [Lib.size_eq] at this
      exact this)
    rw [List.length_map] at this
    omega

theorem ret_str {a b : ByteArray} (h : a = b) : Ending.returned (.string a) = .returned (.string b) := by rw [h]

set_option maxRecDepth 100000 in
theorem text_any (a : Option Addr) (len cap : Nat) (ss : List ByteArray) (w : World) (h : StrsAt w a len cap ss) (h20 : len ≤ 20) (hsz : ∀ s ∈ ss, s.size ≤ 20) :
    Calls Tryd.prog 11 #[.slice a len cap] w fun e w' => e = .returned (.string (textB ss)) ∧ Below w.heap.size w w' := by
  by_cases h0 : len = 0
  · subst h0
    have e : textB ss = nH := by unfold textB; rw [if_pos h.hlen]
    rw [e]
    exact (text_nil a cap w).mono fun e w' ⟨he, hw⟩ => ⟨he, by rw [hw]; exact Below.refl _ _⟩
  · obtain ⟨b, off, rfl, hb, _⟩ := h.at_ 0 (by omega)
    have hl := h.hlen
    have hle := h.hle
    have hcap := h.hcap
    unfold maxLen at hcap
    have hjb := join_bytes (ss.map (·.data.toList)) (fun x hx => by
      obtain ⟨s, hs', rfl⟩ := List.mem_map.1 hx
      have := hsz s hs'
      rw [Lib.size_eq] at this
      exact this)
    rw [List.length_map] at hjb
    have hj := Tryd.strings_Join b off cap ss ⟨#[44]⟩ w (fun j x hx => by
      have hjl : j < ss.length := (List.getElem?_eq_some_iff.1 hx).1
      obtain ⟨b', off', e, _, hc⟩ := h.at_ j (by omega)
      cases e
      rw [hc]
      congr 2
      simp [List.getD, hx]) hb (by omega) (by omega) (by show (Lib.join (ss.map (·.data.toList)) [44]).length ≤ _; omega)
    rw [hl] at hj
    have HE : Hid (textB ss = ⟨(Lib.join (ss.map (·.data.toList)) [44]).toArray⟩) := Hid.mk' (by unfold textB; rw [if_neg (by omega)]; rfl)
    have e44 : (⟨#[44]⟩ : ByteArray).data.toList = [44] := rfl
    rw [e44] at hj
    have hne : ((len : Int) == 0) = false := by simp; omega
    have hne2 : ¬ (len : Int) = 0 := by omega
    generalize (⟨(Lib.join (ss.map (·.data.toList)) [44]).toArray⟩ : ByteArray) = t at *
    clear hjb hsz h e44
    go_enter Tryd.func11, Tryd.ntmps11
    go_wp2_with fail
    refine hj.mono ?_
    rintro e w2 ⟨rfl, hb2⟩
    clear hj
    go_wp2
    go_ret
    exact ⟨ret_str HE.out.symm, hb2⟩

def txtP (l : List ByteArray) (k : Nat) : List UInt8 := Lib.join ((l.take k).map (·.data.toList)) [44]
theorem txtP_one {l : List ByteArray} (h : 0 < l.length) : txtP l 1 = (l.getD 0 ⟨#[]⟩).data.toList := by
  cases l with
  | nil => simp at h
  | cons x t =>
    unfold txtP
    simp [Lib.join_one]
theorem txtP_snoc {l : List ByteArray} {k : Nat} (h0 : 0 < k) (h : k < l.length) : txtP l (k + 1) = txtP l k ++ ([44] ++ (l.getD k ⟨#[]⟩).data.toList) := by
  unfold txtP
  rw [take_snoc h, List.map_append]
  cases l with
  | nil => simp at h
  | cons x t =>
    obtain ⟨k, rfl⟩ : ∃ j, k = j + 1 := ⟨k - 1, by omega⟩
    rw [List.take_succ_cons, List.map_cons, List.cons_append]
    exact join_snoc _ _ _
theorem txtP_len {l : List ByteArray} (hs : ∀ s ∈ l, s.size ≤ 20) (k : Nat) (hk : k ≤ 20) : (txtP l k).length ≤ 420 := by
  have := join_bytes ((l.take k).map (·.data.toList)) (fun x hx => by
      obtain ⟨s, hs', rfl⟩ := List.mem_map.1 hx
      have := hs s (List.mem_of_mem_take hs')
      rw [Lib.size_eq] at this
      exact this)
  rw [List.length_map, List.length_take] at this
  unfold txtP
  omega

set_option maxHeartbeats 1000000 in
set_option maxRecDepth 100000 in
theorem rtext_any (a : Option Addr) (len cap : Nat) (ss : List ByteArray) (w : World) (h : StrsAt w a len cap ss) (h20 : len ≤ 20) (hsz : ∀ s ∈ ss, s.size ≤ 20) :
    Calls Tryd.prog 12 #[.slice a len cap] w fun e w' => e = .returned (.string (textB ss)) ∧ w' = w := by
  have hcap := h.hcap
  have hle := h.hle
  unfold maxLen at hcap
  by_cases h0 : len = 0
  · subst h0
    have e : textB ss = nH := by unfold textB; rw [if_pos h.hlen]
    rw [e]
    clear h
    go_enter Tryd.func12, Tryd.ntmps12
    go_wp2
    go_ret
    exact ⟨rfl, rfl⟩
  · have H : Hid (StrsAt w a len cap ss) := h
    have HL : Hid (ss.length = len) := h.hlen
    have HS : Hid (∀ s ∈ ss, s.size ≤ 20) := hsz
    obtain ⟨b, off, rfl, hb, hc0⟩ := h.at_ 0 (by omega)
    have HO : Hid (mk (txtP ss 1) = ss.getD 0 ⟨#[]⟩) := Hid.mk' (by rw [txtP_one (by rw [HL.out]; omega), mk_data])
    have hne : ((len : Int) == 0) = false := by simp; omega
    have hne2 : ¬ (len : Int) = 0 := by omega
    have hpos : (0 : Int) < (len : Int) := by omega
    rw [← HO.out, Nat.add_zero] at hc0
    clear h hsz
    go_enter Tryd.func12, Tryd.ntmps12
    go_wp2
    clear hc0 HO
    go_loopw [3, 4] (fun v i wr => ∃ k : Nat, 0 < k ∧ k ≤ len ∧ i = .int .i64 k ∧ v = .string (mk (txtP ss k)) ∧ wr = w) (fun _ i _ => len - (intOf i).toNat)
    case atStart => exact ⟨1, by omega, by omega, rfl, rfl, rfl⟩
    case round =>
      obtain ⟨k, hk0, hk, rfl, rfl, rfl⟩ := hrel
      by_cases hlt : k < len
      · obtain ⟨b', off', e, hb', hc⟩ := H.out.at_ k hlt
        cases e
        have hkl : k < ss.length := by have := HL.out; omega
        have hkn : (k : Int) < (len : Int) := by omega
        have HC : Hid (mk (txtP ss k) ++ (⟨#[44]⟩ ++ ss.getD k ⟨#[]⟩) = mk (txtP ss (k + 1))) := Hid.mk' (by
          rw [txtP_snoc hk0 hkl, ← mk_append, ← mk_append, mk_data]
          rfl)
        have z1 : (mk (txtP ss k)).size ≤ 420 := by rw [mk_size]; exact txtP_len HS.out k (by omega)
        have z2 := HS.out _ (getD_mem hkl)
        generalize ss.getD k ⟨#[]⟩ = f at *
        have z3 : ((⟨#[44]⟩ : ByteArray) ++ f).size ≤ 21 := by
          rw [ByteArray.size_append]
          have : (⟨#[44]⟩ : ByteArray).size = 1 := rfl
          omega
        go_wp2
        go_roundw
        case rel => exact ⟨k + 1, by omega, by omega, by go_num, by rw [HC.out], trivial⟩
        case measure => simp [intOf]; omega
      · obtain rfl : k = len := by omega
        have HE : Hid (textB ss = mk (txtP ss k)) := Hid.mk' (by
          unfold textB txtP
          rw [if_neg (by rw [HL.out]; omega), List.take_of_length_le (by rw [HL.out]; exact Nat.le_refl _)])
        go_wp2
        go_ret
        exact ⟨ret_str HE.out.symm, rfl⟩

end Go.Proofs.YtcgnhkpclpecgaaDoor
