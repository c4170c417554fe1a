/-
  Bytes is the bytes of frames that may be, one behind the other. Condition: the slice reads as such frames, at most 8, each of at most 40 bytes.
-/
import Derived.Test.YtbpflpngaipckaaGood
namespace Go.Proofs.Ytbpflpngaipckaa
open Go.ChangeShapes Go.WideShapes Go.ChangeAt Go.RowKit

/-- A frame that may be, of at most 40 bytes. -/
def Fine (f : Fr) : Prop := 1 ≤ f.k ∧ f.k ≤ 8 ∧ f.s.size ≤ 40
theorem Fine.chk {f : Fr} (h : Fine f) {c : Int} (hc : 40 ≤ capd c) : chk f.k f.s.size c = 0 := chk_ok h.1 h.2.1 (by have := h.2.2; omega)

theorem encL_len : ∀ (l : List Fr), (∀ f ∈ l, Fine f) → (encL l).length ≤ 43 * l.length
  | [], _ => Nat.le_refl _
  | f :: l, h => by
    have h1 := encL_len l (fun g hg => h g (by simp [hg]))
    have h2 := (h f (by simp)).2.2
    rw [show encL (f :: l) = encB f ++ encL l from rfl, List.length_append, encB_length, List.length_cons]
    omega

theorem encL_snoc (l : List Fr) (k : Nat) (h : k < l.length) : encL (l.take (k + 1)) = encL (l.take k) ++ encB (l.getD k Fr.zero) := by
  rw [List.take_succ_eq_append_getElem h, encL_append]
  simp [encL, List.getD, h]

set_option maxHeartbeats 1000000 in
set_option maxRecDepth 100000 in
theorem cat_any (a : Option Addr) (n cap : Nat) (fs : List Fr) (w : World) (h : FramesAt w a n cap fs) (h8 : n ≤ 8) (hfine : ∀ f ∈ fs, Fine f) :
    Calls Try.prog 24 #[.slice a n cap] w fun e w' => ∃ v, e = .returned v ∧ w'.ownsRow w.heap.size 5 1 v (encL fs).length (bc (encL fs)) ∧ Below w.heap.size w w' := by
  have hcap := h.hcap
  have hle := h.hle
  unfold maxLen at hcap
  obtain ⟨i0, hi, hz0, hz1, hz2⟩ := info_parts Try.info5
  have H : Hid (FramesAt w a n cap fs) := h
  have HL : Hid (fs.length = n) := h.hlen
  have HF : Hid (∀ f ∈ fs, Fine f) := hfine
  clear h hfine
  go_enter Try.func24, Try.ntmps24
  go_wp2
  go_loopw [3, 4] (fun v i wr => ∃ k : Nat, k ≤ n ∧ i = .int .i64 k ∧ wr.ownsRow w.heap.size 5 1 v (encL (fs.take k)).length (bc (encL (fs.take k))) ∧ Below w.heap.size w wr)
    (fun _ i _ => n - (intOf i).toNat)
  case atStart => exact ⟨0, Nat.zero_le _, rfl, World.ownsRow_nil _ _ _ _, Below.refl _ _⟩
  case round =>
    obtain ⟨k, hk, rfl, hown, hbel⟩ := hrel
    by_cases hlt : k < n
    · obtain ⟨b, off, rfl, hb, hc, hd⟩ := (H.out.below hbel).at_ k hlt
      have hkl : k < fs.length := by have := HL.out; omega
      have hsn := encL_snoc fs k hkl
      have hfk : Fine (fs.getD k Fr.zero) := by
        have e : fs.getD k Fr.zero = fs[k] := by simp [List.getD, hkl]
        rw [e]
        exact HF.out _ (List.getElem_mem hkl)
      have hlen : (encL (fs.take k)).length ≤ 43 * 8 := Nat.le_trans (encL_len _ (fun g hg => HF.out g (List.mem_of_mem_take hg))) (by rw [List.length_take]; omega)
      have SN : Hid (encL (fs.take (k + 1)) = encL (fs.take k) ++ encB (fs.getD k Fr.zero)) := hsn
      have FK : Hid (Fine (fs.getD k Fr.zero)) := hfk
      clear hsn hfk
      generalize fs.getD k Fr.zero = f at hc hd SN FK
      generalize encL (fs.take k) = pre at hown SN hlen
      have hkn : (k : Int) < (n : Int) := by omega
      have hsz : f.s.size ≤ 40 := FK.out.2.2
      go_wp2_with fail
      refine (rwrite_ok f.k f.s 1024 _ (FK.out.chk (by decide))).mono ?_
      rintro e w1 ⟨v1, rfl, o1, hb1⟩
      obtain ⟨g1, cp1, rfl, _, _, _⟩ := owns_some o1 (by omega)
      obtain ⟨a1, c1, e1, B1⟩ := owns_bytes o1
      cases e1
      have hown1 := owns_below hown hb1
      have hbel1 : Below w.heap.size w w1 := hbel.trans (hb1.mono hbel.size)
      clear hown hbel hb1 o1 hc hd hb
      go_wp2_with (at_builtin; refine append_bytes_any _ rfl _ _ rfl w.heap.size i0 hi hz0 hz1 hz2 _ _ _ (encB ⟨f.k, f.s⟩) rfl hown1 _ (3 + f.s.size) _ rfl B1 (fun e => by cases e) (by unfold maxLen; omega) (by omega) hbel1.size ?_)
      intro v2 w2 o2 gr2
      have hbel2 : Below w.heap.size w w2 := hbel1.grown gr2 hbel1.size (fun j hj => (hown1.lt j hj).1)
      have o3 : w2.ownsRow w.heap.size 5 1 v2 (encL (fs.take (k + 1))).length (bc (encL (fs.take (k + 1)))) := by
        rw [SN.out, List.length_append, encB_length]
        exact o2
      clear o2 gr2 hown1 hbel1 B1
      go_wp2
      go_roundw
      case rel => exact ⟨k + 1, by omega, by go_num, o3, hbel2⟩
      case measure => simp [intOf]; omega
    · obtain rfl : k = n := by omega
      rw [List.take_of_length_le (by have := HL.out; omega)] at hown
      go_wp2
      go_ret
      exact ⟨_, rfl, hown, hbel⟩

end Go.Proofs.Ytbpflpngaipckaa
