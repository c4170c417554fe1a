/-
  What Split does, the program's and the document's own: the pieces that the plain function splitB says, in a new row; nothing that was there is turned. Conditions: the slice reads as ints, at most 20; the text has at most 2000 bytes.
-/
import Derived.Test.YtbpflpngaipckaaStrs
namespace Go.Proofs.Ytbpflpngaipckaa
open Go.ChangeShapes Go.WideShapes Go.ChangeAt Go.RowKit

theorem Try.info9 : (Try.prog.info? 9).map (fun i => (i.zero, i.size, i.bytes)) = some (some (.string ⟨#[]⟩), 1, 16) := by kernel_rfl

/-- The pieces so far, and from where on: behind one place more. -/
def cutStep (b : ByteArray) (st : List ByteArray × Nat) (z : Int) : List ByteArray × Nat :=
  if (st.2 : Int) < z ∧ z < b.size then (st.1 ++ [b.extract st.2 z.toNat], z.toNat) else st
def cutL (b : ByteArray) (zs : List Int) : List ByteArray × Nat := zs.foldl (cutStep b) ([], 0)
def splitB (b : ByteArray) (zs : List Int) : List ByteArray := (cutL b zs).1 ++ [b.extract (cutL b zs).2 b.size]

theorem cutL_snoc (b : ByteArray) (zs : List Int) (k : Nat) (h : k < zs.length) : cutL b (zs.take (k + 1)) = cutStep b (cutL b (zs.take k)) (zs.getD k 0) := by
  unfold cutL
  rw [List.take_succ_eq_append_getElem h, List.foldl_append]
  simp [List.getD, h]

theorem cutL_inv (b : ByteArray) : ∀ (zs : List Int) (st : List ByteArray × Nat), st.2 ≤ b.size →
    (zs.foldl (cutStep b) st).2 ≤ b.size ∧ (zs.foldl (cutStep b) st).1.length ≤ st.1.length + zs.length
  | [], _, h => ⟨h, Nat.le_refl _⟩
  | z :: zs, st, h => by
    rw [List.foldl_cons]
    have hs : (cutStep b st z).2 ≤ b.size ∧ (cutStep b st z).1.length ≤ st.1.length + 1 := by
      unfold cutStep
      split
      · rename_i hz
        refine ⟨?_, by simp⟩
        show z.toNat ≤ b.size
        omega
      · exact ⟨h, Nat.le_succ _⟩
    have := cutL_inv b zs _ hs.1
    refine ⟨this.1, Nat.le_trans this.2 ?_⟩
    rw [List.length_cons]
    omega
theorem cutL_le (b : ByteArray) (zs : List Int) : (cutL b zs).2 ≤ b.size := (cutL_inv b zs ([], 0) (Nat.zero_le _)).1
theorem cutL_len (b : ByteArray) (zs : List Int) : (cutL b zs).1.length ≤ zs.length := by have := (cutL_inv b zs ([], 0) (Nat.zero_le _)).2; simpa [cutL] using this

theorem cutStep_cut {b : ByteArray} {l : List ByteArray} {F X : Nat} (h1 : F < X) (h2 : X < b.size) : cutStep b (l, F) (X : Int) = (l ++ [b.extract F X], X) := by
  unfold cutStep
  rw [if_pos ⟨by show (F : Int) < X; omega, by omega⟩]
  simp
theorem cutStep_not {b : ByteArray} {l : List ByteArray} {F : Nat} {x : Int} (h : ¬ ((F : Int) < x ∧ x < b.size)) : cutStep b (l, F) x = (l, F) := by
  unfold cutStep
  rw [if_neg h]

theorem split_ret {b : ByteArray} {zs : List Int} {l : List ByteArray} {F : Nat} (h : cutL b zs = (l, F)) : splitB b zs = l ++ [b.extract F b.size] := by unfold splitB; rw [h]

set_option maxHeartbeats 1000000 in
set_option maxRecDepth 100000 in
theorem split_any (b : ByteArray) (a : Option Addr) (len cap : Nat) (zs : List Int) (w : World) (h : IntsAt w a len cap zs) (h20 : len ≤ 20) (_hb : b.size ≤ 2000) :
    Calls Try.prog 20 #[.string b, .slice a len cap] w fun e w' => ∃ v, e = .returned v ∧ w'.ownsRow w.heap.size 9 1 v (splitB b zs).length (sc (splitB b zs)) ∧ Below w.heap.size w w' := by
  have hcap := h.hcap
  have hle := h.hle
  unfold maxLen at hcap
  obtain ⟨i0, hi, hz0, hz1, hz2⟩ := info_parts Try.info9
  have H : Hid (IntsAt w a len cap zs) := h
  have HL : Hid (zs.length = len) := h.hlen
  clear h
  go_enter Try.func20, Try.ntmps20
  go_wp2
  go_loopw [5, 6, 11] (fun v f i wr => ∃ (k F : Nat) (l : List ByteArray), k ≤ len ∧ i = .int .i64 k ∧ f = .int .i64 F ∧ F ≤ b.size ∧ l.length ≤ k ∧ Hid (cutL b (zs.take k) = (l, F)) ∧ wr.ownsRow w.heap.size 9 1 v l.length (sc l) ∧ Below w.heap.size w wr)
    (fun _ _ i _ => len - (intOf i).toNat)
  case atStart => exact ⟨0, 0, [], Nat.zero_le _, rfl, rfl, Nat.zero_le _, Nat.le_refl _, by show cutL b (zs.take 0) = ([], 0); simp [cutL], World.ownsRow_nil _ _ _ _, Below.refl _ _⟩
  case round =>
    obtain ⟨k, F, l, hk, rfl, rfl, hF, hlk, hcut, hown, hbel⟩ := hrel
    by_cases hlt : k < len
    · obtain ⟨bb, off, rfl, hbb, hc⟩ := (H.out.below hbel).at_ k hlt
      have hsn := cutL_snoc b zs k (by have := HL.out; omega)
      rw [hcut.out] at hsn
      generalize zs.getD k 0 = x at hc hsn
      have hkn : (k : Int) < (len : Int) := by omega
      by_cases hgo : (F : Int) < x ∧ x < b.size
      · obtain ⟨X, rfl⟩ : ∃ X : Nat, x = X := ⟨x.toNat, by omega⟩
        rw [cutStep_cut (by omega) (by omega)] at hsn
        have SN : Hid (cutL b (zs.take (k + 1)) = (l ++ [b.extract F X], X)) := hsn
        obtain ⟨g1, g2⟩ := hgo
        have g3 : F ≤ X := by omega
        have g4 : X ≤ b.size := by omega
        clear hsn hcut
        go_wp2_with (at_builtin; refine wpList_append_own _ rfl _ _ 22 rfl w.heap.size 9 i0 (.string ⟨#[]⟩) 1 16 Try.underlying22 hi hz0 hz1 hz2 rfl (by decide) _ l.length _ rfl (hown.alloc _) ⟨wr.heap.size, 0, none⟩ 1 1 [.string (b.extract F X)] rfl rfl ?c1 ?c2 ?c3 ?c4 ?c5 ?_)
        case c1 =>
          intro j u hj
          match j, hj with
          | 0, hj => simp at hj; subst hj; simp [Addr.add]
          | _ + 1, hj => simp at hj
        case c2 => intro u hu; simp at hu; rcases hu with rfl; rfl
        case c3 => unfold maxLen; omega
        case c4 => omega
        case c5 => have := hbel.size; simp; omega
        intro v3 w3 hown3 hgrow3 _
        have hbel3 : Below w.heap.size w w3 := (hbel.alloc hbel.size _).grown hgrow3 (by have := hbel.size; simp; omega) (fun j hj => (hown.lt j hj).1)
        have hown4 : w3.ownsRow w.heap.size 9 1 v3 (l ++ [b.extract F X]).length (sc (l ++ [b.extract F X])) := by rw [sc_append, List.length_append]; exact hown3
        clear hown3 hgrow3 hown hbel
        go_wp2
        go_roundw
        case rel => exact ⟨k + 1, X, _, by omega, by go_num, rfl, g4, by simp; omega, SN, hown4, hbel3⟩
        case measure => simp [intOf]; omega
      · rw [cutStep_not hgo] at hsn
        have SN : Hid (cutL b (zs.take (k + 1)) = (l, F)) := hsn
        clear hsn hcut
        by_cases hx : x ≤ F
        · clear hgo
          go_wp2
          go_roundw
          case rel => exact ⟨k + 1, F, l, by omega, by go_num, rfl, hF, by omega, SN, hown, hbel⟩
          case measure => simp [intOf]; omega
        · have hd : decide (x ≤ (F : Int)) = false := by simpa using hx
          have hx2 : (b.size : Int) ≤ x := by omega
          clear hgo hx
          go_wp2
          go_roundw
          case rel => exact ⟨k + 1, F, l, by omega, by go_num, rfl, hF, by omega, SN, hown, hbel⟩
          case measure => simp [intOf]; omega
    · obtain rfl : k = len := by omega
      have hend := hcut.out
      rw [List.take_of_length_le (by have := HL.out; omega)] at hend
      have HE : Hid (splitB b zs = l ++ [b.extract F b.size]) := split_ret hend
      clear hend hcut hlt
      go_wp2_with (at_builtin; refine wpList_append_own _ rfl _ _ 22 rfl w.heap.size 9 i0 (.string ⟨#[]⟩) 1 16 Try.underlying22 hi hz0 hz1 hz2 rfl (by decide) _ l.length _ rfl (hown.alloc _) ⟨wr.heap.size, 0, none⟩ 1 1 [.string (b.extract F b.size)] rfl rfl ?c1 ?c2 ?c3 ?c4 ?c5 ?_)
      case c1 =>
        intro j u hj
        match j, hj with
        | 0, hj => simp at hj; subst hj; simp [Addr.add]
        | _ + 1, hj => simp at hj
      case c2 => intro u hu; simp at hu; rcases hu with rfl; rfl
      case c3 => unfold maxLen; omega
      case c4 => omega
      case c5 => have := hbel.size; simp; omega
      intro v3 w3 hown3 hgrow3 _
      have hbel3 : Below w.heap.size w w3 := (hbel.alloc hbel.size _).grown hgrow3 (by have := hbel.size; simp; omega) (fun j hj => (hown.lt j hj).1)
      have hown4 : w3.ownsRow w.heap.size 9 1 v3 (splitB b zs).length (sc (splitB b zs)) := by rw [HE.out, sc_append, List.length_append]; exact hown3
      clear hown3 hgrow3 hown hbel HE
      go_wp2
      go_ret
      exact ⟨_, rfl, hown4, hbel3⟩

set_option maxHeartbeats 1000000 in
set_option maxRecDepth 100000 in
theorem rsplit_any (b : ByteArray) (a : Option Addr) (len cap : Nat) (zs : List Int) (w : World) (h : IntsAt w a len cap zs) (h20 : len ≤ 20) (_hb : b.size ≤ 2000) :
    Calls Try.prog 22 #[.string b, .slice a len cap] w fun e w' => ∃ v, e = .returned v ∧ w'.ownsRow w.heap.size 9 1 v (splitB b zs).length (sc (splitB b zs)) ∧ Below w.heap.size w w' := by
  have hcap := h.hcap
  have hle := h.hle
  unfold maxLen at hcap
  obtain ⟨i0, hi, hz0, hz1, hz2⟩ := info_parts Try.info9
  have H : Hid (IntsAt w a len cap zs) := h
  have HL : Hid (zs.length = len) := h.hlen
  clear h
  go_enter Try.func22, Try.ntmps22
  go_wp2
  go_loopw [5, 6, 7] (fun v f i wr => ∃ (k F : Nat) (l : List ByteArray), k ≤ len ∧ i = .int .i64 k ∧ f = .int .i64 F ∧ F ≤ b.size ∧ l.length ≤ k ∧ Hid (cutL b (zs.take k) = (l, F)) ∧ wr.ownsRow w.heap.size 9 1 v l.length (sc l) ∧ Below w.heap.size w wr)
    (fun _ _ i _ => len - (intOf i).toNat)
  case atStart => exact ⟨0, 0, [], Nat.zero_le _, rfl, rfl, Nat.zero_le _, Nat.le_refl _, by show cutL b (zs.take 0) = ([], 0); simp [cutL], World.ownsRow_nil _ _ _ _, Below.refl _ _⟩
  case round =>
    obtain ⟨k, F, l, hk, rfl, rfl, hF, hlk, hcut, hown, hbel⟩ := hrel
    by_cases hlt : k < len
    · obtain ⟨bb, off, rfl, hbb, hc0⟩ := H.out.at_ k hlt
      have hc := (hbel.cell (p := ⟨bb, off + k, none⟩) hbb).trans hc0
      have hsn := cutL_snoc b zs k (by have := HL.out; omega)
      rw [hcut.out] at hsn
      generalize zs.getD k 0 = x at hc hsn hc0
      have hkn : (k : Int) < (len : Int) := by omega
      by_cases hgo : (F : Int) < x ∧ x < b.size
      · obtain ⟨X, rfl⟩ : ∃ X : Nat, x = X := ⟨x.toNat, by omega⟩
        rw [cutStep_cut (by omega) (by omega)] at hsn
        have SN : Hid (cutL b (zs.take (k + 1)) = (l ++ [b.extract F X], X)) := hsn
        obtain ⟨g1, g2⟩ := hgo
        have g3 : F ≤ X := by omega
        have g4 : X ≤ b.size := by omega
        clear hsn hcut
        go_wp2_with (at_builtin; refine wpList_append_own _ rfl _ _ 22 rfl w.heap.size 9 i0 (.string ⟨#[]⟩) 1 16 Try.underlying22 hi hz0 hz1 hz2 rfl (by decide) _ l.length _ rfl (hown.alloc _) ⟨wr.heap.size, 0, none⟩ 1 1 [.string (b.extract F X)] rfl rfl ?c1 ?c2 ?c3 ?c4 ?c5 ?_)
        case c1 =>
          intro j u hj
          match j, hj with
          | 0, hj => simp at hj; subst hj; simp [Addr.add]
          | _ + 1, hj => simp at hj
        case c2 => intro u hu; simp at hu; rcases hu with rfl; rfl
        case c3 => unfold maxLen; omega
        case c4 => omega
        case c5 => have := hbel.size; simp; omega
        intro v3 w3 hown3 hgrow3 _
        have hbel3 : Below w.heap.size w w3 := (hbel.alloc hbel.size _).grown hgrow3 (by have := hbel.size; simp; omega) (fun j hj => (hown.lt j hj).1)
        have hown4 : w3.ownsRow w.heap.size 9 1 v3 (l ++ [b.extract F X]).length (sc (l ++ [b.extract F X])) := by rw [sc_append, List.length_append]; exact hown3
        have hc3 := (hbel3.cell (p := ⟨bb, off + k, none⟩) hbb).trans hc0
        clear hown3 hgrow3 hown hbel hc hc0
        go_wp2
        go_roundw
        case rel => exact ⟨k + 1, X, _, by omega, by go_num, rfl, g4, by simp; omega, SN, hown4, hbel3⟩
        case measure => simp [intOf]; omega
      · rw [cutStep_not hgo] at hsn
        have SN : Hid (cutL b (zs.take (k + 1)) = (l, F)) := hsn
        clear hsn hcut
        by_cases hx : x ≤ F
        · have hd : decide ((F : Int) < x) = false := by simpa using hx
          clear hgo hx
          go_wp2
          go_roundw
          case rel => exact ⟨k + 1, F, l, by omega, by go_num, rfl, hF, by omega, SN, hown, hbel⟩
          case measure => simp [intOf]; omega
        · have hd : (F : Int) < x := by omega
          have hx2 : decide (x < (b.size : Int)) = false := by simp; omega
          clear hgo hx
          go_wp2
          go_roundw
          case rel => exact ⟨k + 1, F, l, by omega, by go_num, rfl, hF, by omega, SN, hown, hbel⟩
          case measure => simp [intOf]; omega
    · obtain rfl : k = len := by omega
      have hend := hcut.out
      rw [List.take_of_length_le (by have := HL.out; omega)] at hend
      have HE : Hid (splitB b zs = l ++ [b.extract F b.size]) := split_ret hend
      clear hend hcut hlt
      go_wp2_with (at_builtin; refine wpList_append_own _ rfl _ _ 22 rfl w.heap.size 9 i0 (.string ⟨#[]⟩) 1 16 Try.underlying22 hi hz0 hz1 hz2 rfl (by decide) _ l.length _ rfl (hown.alloc _) ⟨wr.heap.size, 0, none⟩ 1 1 [.string (b.extract F b.size)] rfl rfl ?c1 ?c2 ?c3 ?c4 ?c5 ?_)
      case c1 =>
        intro j u hj
        match j, hj with
        | 0, hj => simp at hj; subst hj; simp [Addr.add]
        | _ + 1, hj => simp at hj
      case c2 => intro u hu; simp at hu; rcases hu with rfl; rfl
      case c3 => unfold maxLen; omega
      case c4 => omega
      case c5 => have := hbel.size; simp; omega
      intro v3 w3 hown3 hgrow3 _
      have hbel3 : Below w.heap.size w w3 := (hbel.alloc hbel.size _).grown hgrow3 (by have := hbel.size; simp; omega) (fun j hj => (hown.lt j hj).1)
      have hown4 : w3.ownsRow w.heap.size 9 1 v3 (splitB b zs).length (sc (splitB b zs)) := by rw [HE.out, sc_append, List.length_append]; exact hown3
      clear hown3 hgrow3 hown hbel HE
      go_wp2
      go_ret
      exact ⟨_, rfl, hown4, hbel3⟩

end Go.Proofs.Ytbpflpngaipckaa
