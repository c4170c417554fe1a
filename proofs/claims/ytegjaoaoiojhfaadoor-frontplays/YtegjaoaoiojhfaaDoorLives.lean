/-
  The document's example holds. Condition: the tables read as they are laid.
-/
import Derived.Test.YtegjaoaoiojhfaaDoorNext
namespace Go.Proofs.YtegjaoaoiojhfaaDoor
open Go.ChangeShapes Go.WideShapes Go.ChangeAt Go.RowKit

theorem inv_of (s : Ft) (h0 : 0 ≤ s.st) (h1 : s.st ≤ 6) (h2 : s.hl.length ≤ 4) (h3 : s.st = 6 → s.hl = []) : Inv s := ⟨h0, h1, h2, h3⟩
def qd : ByteArray := ⟨#[113]⟩
def ed : ByteArray := ⟨#[]⟩
theorem ex_1 : tk n0 ⟨1, ed⟩ = ⟨1, []⟩ ∧ tkw n0 1 = 1 := ⟨by rfl, by decide⟩
theorem ex_2 : tk ⟨1, []⟩ ⟨2, ed⟩ = ⟨2, []⟩ ∧ tkw ⟨1, []⟩ 2 = 2 := ⟨by rfl, by rfl⟩
theorem ex_3 : tk ⟨2, []⟩ ⟨3, qd⟩ = ⟨2, [⟨3, qd⟩]⟩ ∧ tkw ⟨2, []⟩ 3 = 3 := ⟨by rfl, by rfl⟩
theorem ex_4 : nxT ⟨2, [⟨3, qd⟩]⟩ = ⟨2, [⟨3, qd⟩]⟩ ∧ nxB ⟨2, [⟨3, qd⟩]⟩ = false ∧ nxW ⟨2, [⟨3, qd⟩]⟩ = 0 ∧ nxF ⟨2, [⟨3, qd⟩]⟩ = f0 := ⟨rfl, rfl, rfl, rfl⟩
theorem ex_5 : goT 0 ⟨2, [⟨3, qd⟩]⟩ = ⟨3, [⟨3, qd⟩]⟩ ∧ goB 0 2 = true := ⟨by rfl, rfl⟩
theorem ex_6 : nxT ⟨3, [⟨3, qd⟩]⟩ = ⟨3, []⟩ ∧ nxB ⟨3, [⟨3, qd⟩]⟩ = true ∧ nxW ⟨3, [⟨3, qd⟩]⟩ = 4 ∧ nxF ⟨3, [⟨3, qd⟩]⟩ = ⟨3, qd⟩ := ⟨by rfl, rfl, rfl, rfl⟩

set_option maxHeartbeats 1000000 in
set_option maxRecDepth 100000 in
theorem lives_any (w : World) (h : Tabs w) :
    Calls Tryd.prog 9 #[] w fun e w' => e = .returned (.bool true) ∧ Below w.heap.size w w' := by
  have hnew := new_any w h
  clear h
  go_enter Tryd.func9, Tryd.ntmps9
  go_wp2_with fail
  refine hnew.mono ?_
  rintro e w1 ⟨rfl, hF, hb, -⟩
  have HF := Hid.mk' hF
  have HK : Hid (Keep (fun k => k < w.heap.size) w w1) := keep_below hb
  generalize hg : w.heap.size = g at *
  have HG : Hid (w.heap.size = g) := hg
  clear hb hF hnew hg
  have hq := Hid.mk' (take_n HF.out inv0 1 ed _ _ ex_1.1 ex_1.2)
  unfold ed at hq
  go_wp2_with fail
  refine hq.out.mono ?_
  rintro e w2 ⟨rfl, hF, hk⟩
  replace HF := Hid.mk' hF
  replace HK := Hid.mk' (HK.out.trans hk)
  clear hF hk hq
  have hq := Hid.mk' (take_n HF.out (inv_of _ (by decide) (by decide) (by decide) (fun _ => rfl)) 2 ed _ _ ex_2.1 ex_2.2)
  unfold ed at hq
  go_wp2_with fail
  refine hq.out.mono ?_
  rintro e w3 ⟨rfl, hF, hk⟩
  replace HF := Hid.mk' hF
  replace HK := Hid.mk' (HK.out.trans hk)
  clear hF hk hq
  have hq := Hid.mk' (take_n HF.out (inv_of _ (by decide) (by decide) (by decide) (fun _ => rfl)) 3 qd _ _ ex_3.1 ex_3.2)
  unfold qd at hq
  go_wp2_with fail
  refine hq.out.mono ?_
  rintro e w4 ⟨rfl, hF, hk⟩
  replace HF := Hid.mk' hF
  replace HK := Hid.mk' (HK.out.trans hk)
  clear hF hk hq
  have hI : Inv ⟨2, [⟨3, qd⟩]⟩ := inv_of _ (by decide) (by decide) (by decide) (fun h => by cases h)
  have hq := Hid.mk' (next_n HF.out hI _ _ _ _ ex_4.1 ex_4.2.2.2 ex_4.2.2.1 ex_4.2.1)
  clear hI
  unfold f0 at hq
  dsimp only at hq
  go_wp2_with fail
  refine hq.out.mono ?_
  rintro e w5 ⟨rfl, hF, hk⟩
  replace HF := Hid.mk' hF
  replace HK := Hid.mk' (HK.out.trans hk)
  clear hF hk hq
  go_upto_region 6 with fail
  have hb : Below w5.heap.size w5 (w5.alloc (.cells #[.int .i64 0, .string ⟨#[]⟩] 31)) := (Below.refl _ w5).alloc (Nat.le_refl _) _
  have hF := HF.out.below hb
  have hk : Keep (fun k => k < g) w5 _ := keep_below hb
  replace HF := Hid.mk' hF
  replace HK := Hid.mk' (HK.out.trans hk)
  clear hF hk hb
  generalize w5.alloc (.cells #[.int .i64 0, .string ⟨#[]⟩] 31) = w6 at *
  have hq := Hid.mk' (bound_n HF.out _ _ ex_5.1 ex_5.2)
  go_wp2_with fail
  refine hq.out.mono ?_
  rintro e w7 ⟨rfl, hF, hk⟩
  replace HF := Hid.mk' hF
  replace HK := Hid.mk' (HK.out.trans hk)
  clear hF hk hq
  have hI : Inv ⟨3, [⟨3, qd⟩]⟩ := inv_of _ (by decide) (by decide) (by decide) (fun h => by cases h)
  have hq := Hid.mk' (next_n HF.out hI _ _ _ _ ex_6.1 ex_6.2.2.2 ex_6.2.2.1 ex_6.2.1)
  clear hI
  dsimp only at hq
  unfold qd at hq
  go_wp2_with fail
  refine hq.out.mono ?_
  rintro e w8 ⟨rfl, hF, hk⟩
  replace HF := Hid.mk' hF
  replace HK := Hid.mk' (HK.out.trans hk)
  clear hF hk hq
  go_upto_region 8 with fail
  have hb : Below w8.heap.size w8 (w8.alloc (.cells #[.int .i64 3, .string ⟨#[113]⟩] 31)) := (Below.refl _ w8).alloc (Nat.le_refl _) _
  obtain ⟨x0, x1, -⟩ := blk2 (heap_alloc_new w8 (.cells #[.int .i64 3, .string ⟨#[113]⟩] 31))
  have hF := HF.out.below hb
  have hk : Keep (fun k => k < g) w8 _ := keep_below hb
  replace HF := Hid.mk' hF
  replace HK := Hid.mk' (HK.out.trans hk)
  clear hF hk hb
  generalize w8.alloc (.cells #[.int .i64 3, .string ⟨#[113]⟩] 31) = w9 at *
  have hs := state_n HF.out 3 rfl
  go_wp2_with (go_at_call 19; refine hs.mono ?_; rintro e w' ⟨rfl, hw'⟩; subst w')
  go_ret
  exact ⟨rfl, by rw [HG.out]; exact HK.out.below (Nat.le_of_eq HG.out.symm) (fun _ h => h)⟩

end Go.Proofs.YtegjaoaoiojhfaaDoor
