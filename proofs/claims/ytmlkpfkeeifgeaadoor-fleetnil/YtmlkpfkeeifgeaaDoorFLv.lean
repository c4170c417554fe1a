/-
  What leave does: which hosts stay, which leave now, and what becomes of their drains. Conditions: a fleet lies where it is said to lie, of at most 4000 hosts, and drains; of its drains none stands twice; a name is no longer than the greatest length; the list lies in none of its blocks.
-/
import Derived.Test.YtmlkpfkeeifgeaaDoorFLvP
import Derived.Deep.CutRange
namespace Go.Proofs.YtmlkpfkeeifgeaaDoor
open Go.ChangeShapes Go.WideShapes Go.ChangeAt Go.RowKit

theorem lvH_snoc {l : List ByteArray} {H : List Hs} {i : Nat} (h : i < H.length) : lvH l (H.take (i + 1)) = lvH l (H.take i) ++ lvStay l (atH H i) := by
  rw [takeH_snoc h, lvH_append]
  simp [lvH]
theorem lvN_snoc {l : List ByteArray} {H : List Hs} {i : Nat} (h : i < H.length) : lvN l (H.take (i + 1)) = lvN l (H.take i) ++ (if lvNow l (atH H i) = true then [(atH H i).nm] else []) := by
  rw [takeH_snoc h, lvN_append]
  simp [lvN]
theorem lvL_snoc {l : List ByteArray} {d : Int} {H : List Hs} {L M : List Dr} {i : Nat} (h : i < H.length) : lvL l d (H.take (i + 1)) L M = if lvBeg l (atH H i) = true then (begL (atH H i).nm (lvL l d (H.take i) L M).1 (lvL l d (H.take i) L M).2, begM (atH H i).nm d (lvL l d (H.take i) L M).2) else lvL l d (H.take i) L M := by
  rw [takeH_snoc h, lvL_append]
  simp only [lvL]

/-- The state of leave's walk behind i hosts. -/
def LvI (w0 : World) (A : Nat → Prop) (f : Nat) (e gd : Int) (l : List ByteArray) (d : Int) (H : List Hs) (L M : List Dr) (i : Nat) (v7 v8 : Value) (w : World) : Prop :=
  ∃ G, LvW w0 A f e gd (lvN l (H.take i)) (lvH l (H.take i)) G (lvL l d (H.take i) L M).1 (lvL l d (H.take i) L M).2 v7 v8 w ∧ G.length = H.length ∧ (∀ j, i ≤ j → atH G j = atH H j) ∧ (lvL l d (H.take i) L M).2.length ≤ M.length + i

section
variable {w0 w : World} {A : Nat → Prop} {f : Nat} {e gd : Int} {l : List ByteArray} {d : Int} {H G : List Hs} {L M : List Dr} {i : Nat} {v7 v8 : Value}
theorem LvI.stay (hi : i < H.length) (hnow : lvNow l (atH H i) = false) (hW : LvW w0 A f e gd (lvN l (H.take i)) (lvH l (H.take i) ++ [atH H i]) G (lvL l d (H.take i) L M).1 (lvL l d (H.take i) L M).2 v7 v8 w) (hG : G.length = H.length) (hGj : ∀ j, i ≤ j → atH G j = atH H j) (hM : (lvL l d (H.take i) L M).2.length ≤ M.length + i) :
    LvI w0 A f e gd l d H L M (i + 1) v7 v8 w := by
  have hb : lvBeg l (atH H i) = false := by unfold lvBeg; rw [hnow]; rfl
  refine ⟨G, ?_, hG, fun j hj => hGj j (by omega), ?_⟩
  · rw [lvN_snoc hi, lvH_snoc hi, lvL_snoc hi, hnow, if_neg (by simp), List.append_nil, if_neg (by rw [hb]; simp)]
    unfold lvStay
    rw [hnow, if_pos rfl]
    exact hW
  · rw [lvL_snoc hi, if_neg (by rw [hb]; simp)]
    omega
theorem LvI.gone (hi : i < H.length) (hnow : lvNow l (atH H i) = true) (hst : (atH H i).st = 3) (hW : LvW w0 A f e gd (lvN l (H.take i) ++ [(atH H i).nm]) (lvH l (H.take i)) G (lvL l d (H.take i) L M).1 (lvL l d (H.take i) L M).2 v7 v8 w) (hG : G.length = H.length) (hGj : ∀ j, i ≤ j → atH G j = atH H j) (hM : (lvL l d (H.take i) L M).2.length ≤ M.length + i) :
    LvI w0 A f e gd l d H L M (i + 1) v7 v8 w := by
  have hb : lvBeg l (atH H i) = false := by unfold lvBeg; rw [hst]; simp
  refine ⟨G, ?_, hG, fun j hj => hGj j (by omega), ?_⟩
  · rw [lvN_snoc hi, lvH_snoc hi, lvL_snoc hi, hnow, if_pos rfl, if_neg (by rw [hb]; simp)]
    unfold lvStay
    rw [hnow, if_neg (by simp), hst, if_pos rfl, List.append_nil]
    exact hW
  · rw [lvL_snoc hi, if_neg (by rw [hb]; simp)]
    omega
theorem LvI.left (hi : i < H.length) (hnow : lvNow l (atH H i) = true) (hst : ¬ (atH H i).st = 3) (hdid : St.did (atH H i).st 5 = false) (hW : LvW w0 A f e gd (lvN l (H.take i) ++ [(atH H i).nm]) (lvH l (H.take i) ++ [⟨(atH H i).nm, St.nx (atH H i).st 5, true⟩]) G (lvL l d (H.take i) L M).1 (lvL l d (H.take i) L M).2 v7 v8 w) (hG : G.length = H.length) (hGj : ∀ j, i + 1 ≤ j → atH G j = atH H j) (hM : (lvL l d (H.take i) L M).2.length ≤ M.length + i) :
    LvI w0 A f e gd l d H L M (i + 1) v7 v8 w := by
  have hb : lvBeg l (atH H i) = false := by unfold lvBeg; rw [hdid]; simp
  refine ⟨G, ?_, hG, hGj, ?_⟩
  · rw [lvN_snoc hi, lvH_snoc hi, lvL_snoc hi, hnow, if_pos rfl, if_neg (by rw [hb]; simp)]
    unfold lvStay
    rw [hnow, if_neg (by simp), if_neg hst]
    exact hW
  · rw [lvL_snoc hi, if_neg (by rw [hb]; simp)]
    omega
theorem LvI.leftB (hi : i < H.length) (hnow : lvNow l (atH H i) = true) (hst : ¬ (atH H i).st = 3) (hdid : St.did (atH H i).st 5 = true) (hW : LvW w0 A f e gd (lvN l (H.take i) ++ [(atH H i).nm]) (lvH l (H.take i) ++ [⟨(atH H i).nm, St.nx (atH H i).st 5, true⟩]) G (begL (atH H i).nm (lvL l d (H.take i) L M).1 (lvL l d (H.take i) L M).2) (begM (atH H i).nm d (lvL l d (H.take i) L M).2) v7 v8 w) (hG : G.length = H.length) (hGj : ∀ j, i + 1 ≤ j → atH G j = atH H j) (hM : (lvL l d (H.take i) L M).2.length ≤ M.length + i) :
    LvI w0 A f e gd l d H L M (i + 1) v7 v8 w := by
  have hb : lvBeg l (atH H i) = true := by unfold lvBeg; rw [hdid, hnow, decide_eq_false hst]; rfl
  refine ⟨G, ?_, hG, hGj, ?_⟩
  · rw [lvN_snoc hi, lvH_snoc hi, lvL_snoc hi, hnow, if_pos rfl, if_pos hb]
    unfold lvStay
    rw [hnow, if_neg (by simp), if_neg hst]
    exact hW
  · rw [lvL_snoc hi, if_pos hb]
    have := begM_len (atH H i).nm d (lvL l d (H.take i) L M).2
    dsimp only
    omega
theorem atH_set {G : List Hs} {i j : Nat} {p : Hs} (h : j ≠ i) : atH (G.set i p) j = atH G j := by
  simp only [atH, List.getD]
  rw [List.getElem?_set_ne (fun e => h e.symm)]
theorem atH_set_self {G : List Hs} {i : Nat} {p : Hs} (h : i < G.length) : atH (G.set i p) i = p := by
  simp only [atH, List.getD]
  rw [List.getElem?_set_self h]
  rfl
end

section
variable {w0 w : World} {A : Nat → Prop} {f : Nat} {e gd : Int} {l : List ByteArray} {d : Int} {H : List Hs} {L M : List Dr}

set_option maxHeartbeats 4000000 in
set_option maxRecDepth 100000 in
theorem fleave_w (h : FIn w0 A f e gd H L M) (hv : Inv L M) (al : Option Addr) (nl cl : Nat) (hl : StrsAt w0 al nl cl l) (hA : 0 < nl → ∀ x, al = some x → A x.block) (d : Int) (hn : H.length ≤ 4000) (hm : M.length + H.length ≤ 4000) (hsz : ∀ i, i < H.length → (atH H i).nm.size ≤ maxLen) :
    Calls Tryd.prog 53 #[.pointer (some ⟨f, 0, none⟩), .slice al nl cl, .int .i64 d] w0 fun r w' => ∃ v, r = .returned v ∧ w'.ownsRow w0.heap.size 9 1 v (lvN l H).length (sc (lvN l H)) ∧ FIn w' (fun k => A k ∨ v.ownBlock = some k) f e gd (lvH l H) (lvL l d H L M).1 (lvL l d H L M).2 ∧ Keep A w0 w' := by
  have HS : Hid (LvI w0 A f e gd l d H L M 0 (.slice none 0 0) (.slice none 0 0) w0) := by
    refine ⟨H, ?_, rfl, fun _ _ => rfl, by simp [lvL]⟩
    have := LvW.start h hv
    simpa [lvN, lvH, lvL] using this
  have HF := Hid.mk' h
  have HL := Hid.mk' hl
  have hnl := hl.hlen
  have hlc := hl.hle
  have hlm := hl.hcap
  have HSZ := Hid.mk' hsz
  have hcells := h.cells
  obtain ⟨g, a, c, c0, -, -, c3, -, hle, hcm, hfl, -, -⟩ := hcells
  unfold maxLen at hcm hlm
  generalize hn0 : H.length = n at *
  have HN := Hid.mk' hn0
  clear h hv hl hsz hn0
  go_enter Tryd.func53, Tryd.ntmps53
  go_wp2
  go_step3
  go_wp2
  go_step3
  go_wp2
  go_loopw [18, 7, 8] (fun v18 v7 v8 wr => ∃ i : Nat, v18 = .int .i64 i ∧ i ≤ n ∧ LvI w0 A f e gd l d H L M i v7 v8 wr) (fun v18 _ _ _ => n + 1 - (intOf v18).toNat)
  case atStart => exact ⟨0, rfl, Nat.zero_le _, HS.out⟩
  case round =>
    clear HS c0 c3 hle hcm hfl
    obtain ⟨i, rfl, hi, hI⟩ := hrel
    have HI := Hid.mk' hI
    by_cases hin : i < n
    · obtain ⟨G, hW, hG, hGj, hMl⟩ := hI
      obtain ⟨g, a, c, c0, -, -, c3, -, hle, hcm, hfl, -, hrow⟩ := hW.fin.cells
      have hHl := HN.out
      rw [hG, hHl] at c3 hle
      obtain ⟨b, rfl, hb, y0, y1, y2, hfz⟩ := hrow i (by omega)
      rw [hGj i (Nat.le_refl _)] at y0 y1 y2
      have hin' : (i : Int) < (n : Int) := by omega
      unfold maxLen at hcm
      have HW := Hid.mk' hW
      have HG := Hid.mk' hG
      have HGJ := Hid.mk' hGj
      have HML := Hid.mk' hMl
      have hF := fidx_le (atH H i).nm l
      have HNE : Hid (∀ j, j < fidx (atH H i).nm l → l.getD j ⟨#[]⟩ ≠ (atH H i).nm) := fidx_lt (atH H i).nm l
      have HEQ : Hid (fidx (atH H i).nm l < l.length → l.getD (fidx (atH H i).nm l) ⟨#[]⟩ = (atH H i).nm) := fidx_at (atH H i).nm l
      have HMEM : Hid (fidx (atH H i).nm l < l.length ↔ hasB l (atH H i).nm = true) := by rw [hasB_iff]; exact fidx_mem (atH H i).nm l
      rw [hnl] at hF HEQ HMEM
      have HX : Hid (hasB l (atH H i).nm = false → (atH H i).lv = false → lvNow l (atH H i) = true) := fun h1 h2 => by unfold lvNow; rw [h1, h2]; rfl
      have HY : Hid ((hasB l (atH H i).nm = true ∨ (atH H i).lv = true) → lvNow l (atH H i) = false) := fun h1 => by
        unfold lvNow
        rcases h1 with h1 | h1 <;> rw [h1] <;> simp
      clear hW hG hGj hMl hrow hHl
      generalize fidx (atH H i).nm l = F at *
      go_upto_block 1 with fail
      go_cut [7, 8, 9, 10, 12] from 20 to 84 (fun v7 v8 _ _ _ w4 => LvI w0 A f e gd l d H L M (i + 1) v7 v8 w4)
      case first =>
        go_wp2
        go_loopw [29, 8] (fun v29 v8 w3 => ∃ j : Nat, v29 = .int .i64 j ∧ j ≤ F ∧ v8 = u8 ∧ w3 = wr) (fun v29 _ _ => nl + 1 - (intOf v29).toNat)
        case atStart => exact ⟨0, rfl, Nat.zero_le _, rfl, rfl⟩
        case round =>
          obtain ⟨j, rfl, hj1, rfl, rfl⟩ := hrel
          by_cases hjn : j < nl
          · obtain ⟨bj, oj, ej, _, hxj⟩ := (HL.out.keepB HW.out.kp (hA (Nat.lt_of_le_of_lt (Nat.zero_le _) hjn))).at_ j hjn
            subst ej
            have hjn' : (j : Int) < (nl : Int) := by omega
            by_cases hjF : j < F
            · obtain ⟨e1, e2⟩ := ne_bytes (HNE.out j hjF)
              generalize l.getD j ⟨#[]⟩ = y at *
              generalize (atH H i).nm = x at *
              go_wp2
              exact ⟨⟨j + 1, by simp, by omega, rfl, trivial⟩, by simp [intOf]; omega⟩
            · obtain rfl : F = j := by omega
              have hex := HEQ.out hjn
              rw [hex] at hxj
              have HNOW := Hid.mk' (HY.out (.inl (HMEM.out.1 hjn)))
              have HDONE : Hid (∀ w5 g5 c6, w5.ownsRow w0.heap.size 97 3 (.slice (some ⟨g5, 0, none⟩) ((lvH l (H.take i)).length + 1) c6) ((lvH l (H.take i)).length + 1) (hcs (lvH l (H.take i) ++ [⟨(atH H i).nm, (atH H i).st, (atH H i).lv⟩])) → (wr.alloc (.cells #[.string (atH H i).nm, .int .i64 (atH H i).st, .bool (atH H i).lv] 97)).grownBy w5 u8.ownBlock → (u8.ownBlock = some g5 ∨ g5 = (wr.alloc (.cells #[.string (atH H i).nm, .int .i64 (atH H i).st, .bool (atH H i).lv] 97)).heap.size) → LvI w0 A f e gd l d H L M (i + 1) u7 (.slice (some ⟨g5, 0, none⟩) ((lvH l (H.take i)).length + 1) c6) w5) := fun w5 g5 c6 o5 gr5 at5 =>
                LvI.stay (by rw [HN.out]; exact hin) HNOW.out ((HW.out.below ((Below.refl _ wr).alloc (Nat.le_refl _) _)).app8 rfl o5 gr5 at5) HG.out HGJ.out HML.out
              have hS8 := HW.out.o8.alloc (.cells #[.string (atH H i).nm, .int .i64 (atH H i).st, .bool (atH H i).lv] 97)
              have hSl : (lvH l (H.take i)).length ≤ 5000 := by have := lvH_len l (H.take i); rw [List.length_take] at this; omega
              have hbs := HW.out.kp.size
              generalize (atH H i).nm = x at *
              generalize (atH H i).st = st at *
              generalize (atH H i).lv = lv at *
              generalize lvH l (H.take i) = S at *
              generalize hns : S.length = ns at *
              go_wp2_with (at_builtin; refine wpList_host1 _ rfl _ _ rfl w0.heap.size _ ns S ⟨x, st, lv⟩ rfl hS8 _ 1 rfl (host_at wr x st lv) hSl (by simp; omega) ?_; intro g5 c6 w5 o5 gr5 at5)
              have HE := Hid.mk' (HDONE.out w5 g5 c6 o5 gr5 at5)
              clear o5 gr5 at5
              go_wp2
              go_meet
              exact HE.out
          · obtain rfl : nl = j := by omega
            obtain rfl : F = nl := by omega
            have hno : hasB l (atH H i).nm = false := by
              cases hh : hasB l (atH H i).nm with
              | false => rfl
              | true => exact absurd (HMEM.out.2 hh) (Nat.lt_irrefl _)
            have hSl : (lvH l (H.take i)).length ≤ 5000 := by have := lvH_len l (H.take i); rw [List.length_take] at this; omega
            have hOl : (lvN l (H.take i)).length ≤ 4000 := by have := lvN_len l (H.take i); rw [List.length_take] at this; omega
            have hbs := HW.out.kp.size
            cases hlv : (atH H i).lv with
            | true =>
              rw [hlv] at y2
              have HNOW := Hid.mk' (HY.out (.inr hlv))
              have HDONE : Hid (∀ w5 g5 c6, w5.ownsRow w0.heap.size 97 3 (.slice (some ⟨g5, 0, none⟩) ((lvH l (H.take i)).length + 1) c6) ((lvH l (H.take i)).length + 1) (hcs (lvH l (H.take i) ++ [⟨(atH H i).nm, (atH H i).st, true⟩])) → (wr.alloc (.cells #[.string (atH H i).nm, .int .i64 (atH H i).st, .bool true] 97)).grownBy w5 u8.ownBlock → (u8.ownBlock = some g5 ∨ g5 = (wr.alloc (.cells #[.string (atH H i).nm, .int .i64 (atH H i).st, .bool true] 97)).heap.size) → LvI w0 A f e gd l d H L M (i + 1) u7 (.slice (some ⟨g5, 0, none⟩) ((lvH l (H.take i)).length + 1) c6) w5) := fun w5 g5 c6 o5 gr5 at5 =>
                LvI.stay (by rw [HN.out]; exact hin) HNOW.out ((HW.out.below ((Below.refl _ wr).alloc (Nat.le_refl _) _)).app8 rfl (by rw [← hlv] at o5; exact o5) gr5 at5) HG.out HGJ.out HML.out
              have hS8 := HW.out.o8.alloc (.cells #[.string (atH H i).nm, .int .i64 (atH H i).st, .bool true] 97)
              clear hlv
              generalize (atH H i).nm = x at *
              generalize (atH H i).st = st at *
              generalize lvH l (H.take i) = S at *
              generalize hns : S.length = ns at *
              go_wp2_with (at_builtin; refine wpList_host1 _ rfl _ _ rfl w0.heap.size _ ns S ⟨x, st, true⟩ rfl hS8 _ 1 rfl (host_at wr x st true) hSl (by simp; omega) ?_; intro g5 c6 w5 o5 gr5 at5)
              have HE := Hid.mk' (HDONE.out w5 g5 c6 o5 gr5 at5)
              clear o5 gr5 at5
              go_wp2
              go_meet
              exact HE.out
            | false =>
              rw [hlv] at y2
              have HNOW := Hid.mk' (HX.out hno hlv)
              have hO7 := HW.out.o7.alloc (.cells #[.string (atH H i).nm] 9)
              by_cases h3 : (atH H i).st = 3
              · have HDONE : Hid (∀ w5 g5 c6, w5.ownsRow w0.heap.size 9 1 (.slice (some ⟨g5, 0, none⟩) ((lvN l (H.take i)).length + 1) c6) ((lvN l (H.take i)).length + 1) (sc (lvN l (H.take i) ++ [(atH H i).nm])) → (wr.alloc (.cells #[.string (atH H i).nm] 9)).grownBy w5 u7.ownBlock → (u7.ownBlock = some g5 ∨ g5 = (wr.alloc (.cells #[.string (atH H i).nm] 9)).heap.size) → LvI w0 A f e gd l d H L M (i + 1) (.slice (some ⟨g5, 0, none⟩) ((lvN l (H.take i)).length + 1) c6) u8 w5 ∧ w5.cell? ⟨b, i * 3 + 1, none⟩ = some (.int .i64 3)) := fun w5 g5 c6 o5 gr5 at5 => by
                  have hW1 := HW.out.below ((Below.refl _ wr).alloc (Nat.le_refl _) (.cells #[.string (atH H i).nm] 9))
                  have hW2 := hW1.app7 rfl o5 gr5 at5
                  refine ⟨LvI.gone (by rw [HN.out]; exact hin) HNOW.out h3 hW2 HG.out HGJ.out HML.out, ?_⟩
                  have hpin := grown_pin gr5 hW1.f_out.1 hW1.fin.lt
                  have hpin0 : (wr.alloc (.cells #[.string (atH H i).nm] 9)).heap[f]? = wr.heap[f]? := Below.heap_alloc wr _ f hfl
                  have := (hW2.fin.atRow (cell_pin (hpin.trans hpin0) c3) (by rw [HG.out, HN.out]; exact hin)).2.2.1
                  rw [HGJ.out i (Nat.le_refl _), h3] at this
                  exact this
                rw [h3] at y1
                clear h3 hlv
                generalize (atH H i).nm = x at *
                generalize lvN l (H.take i) = O at *
                generalize hns : O.length = ns at *
                go_upto_region 15 with (at_builtin; refine wpList_str1 _ rfl _ _ rfl w0.heap.size _ ns O x rfl hO7 _ 1 rfl (news_one wr (.string x) 9 0 _ rfl) hOl (by simp; omega) ?_; intro g5 c6 w5 o5 gr5 at5)
                obtain ⟨hE, y3⟩ := HDONE.out w5 g5 c6 o5 gr5 at5
                have HE := Hid.mk' hE
                clear o5 gr5 at5 hE y0 y1 y2 c0 c3
                go_wp2
                go_meet
                exact HE.out
              · obtain ⟨s', hs'⟩ : ∃ s', St.nx (atH H i).st 5 = s' := ⟨_, rfl⟩
                have hiG : i < G.length := by rw [HG.out, HN.out]; exact hin
                have hsz := HSZ.out i hin
                have hmb : (lvL l d (H.take i) L M).2.length ≤ 4000 := by have := HML.out; omega
                have hG2 : atH (setS (setV G i true) i s') i = ⟨(atH H i).nm, s', true⟩ := by
                  unfold setS
                  rw [atH_set_self (by rw [setV_length]; exact hiG)]
                  unfold setV
                  rw [atH_set_self hiG, HGJ.out i (Nat.le_refl _)]
                have hGV : atH (setV G i true) i = ⟨(atH H i).nm, (atH H i).st, true⟩ := by
                  unfold setV
                  rw [atH_set_self hiG, HGJ.out i (Nat.le_refl _)]
                have hGL : (setS (setV G i true) i s').length = H.length := by rw [setS_length, setV_length]; exact HG.out
                have hGJ2 : ∀ j, i + 1 ≤ j → atH (setS (setV G i true) i s') j = atH H j := fun j hj => by
                  unfold setS
                  rw [atH_set (by omega)]
                  unfold setV
                  rw [atH_set (by omega)]
                  exact HGJ.out j (by omega)
                have HDONE : Hid (∀ w5 g5 c6, w5.ownsRow w0.heap.size 9 1 (.slice (some ⟨g5, 0, none⟩) ((lvN l (H.take i)).length + 1) c6) ((lvN l (H.take i)).length + 1) (sc (lvN l (H.take i) ++ [(atH H i).nm])) → (wr.alloc (.cells #[.string (atH H i).nm] 9)).grownBy w5 u7.ownBlock → (u7.ownBlock = some g5 ∨ g5 = (wr.alloc (.cells #[.string (atH H i).nm] 9)).heap.size) →
                    LvW w0 A f e gd (lvN l (H.take i) ++ [(atH H i).nm]) (lvH l (H.take i)) G (lvL l d (H.take i) L M).1 (lvL l d (H.take i) L M).2 (.slice (some ⟨g5, 0, none⟩) ((lvN l (H.take i)).length + 1) c6) u8 w5 ∧ w5.cell? ⟨f, 0, none⟩ = some (.pointer (some ⟨g, 0, none⟩)) ∧ w5.cell? ⟨f, 3, none⟩ = some (.slice (some ⟨b, 0, none⟩) n c) ∧ w5.cell? ⟨b, i * 3 + 1, none⟩ = some (.int .i64 (atH H i).st) ∧ w5.cell? ⟨b, i * 3 + 2, none⟩ = some (.bool false) ∧ w5.frozen? ⟨b, i * 3 + 2, none⟩ = false) := fun w5 g5 c6 o5 gr5 at5 => by
                  have hW1 := HW.out.below ((Below.refl _ wr).alloc (Nat.le_refl _) (.cells #[.string (atH H i).nm] 9))
                  have hW2 := hW1.app7 rfl o5 gr5 at5
                  have hpin := (grown_pin gr5 hW1.f_out.1 hW1.fin.lt).trans (Below.heap_alloc wr (.cells #[.string (atH H i).nm] 9) f hfl)
                  have c35 := cell_pin hpin c3
                  obtain ⟨-, -, r1, r2, r3⟩ := hW2.fin.atRow c35 hiG
                  rw [HGJ.out i (Nat.le_refl _)] at r1 r2
                  rw [hlv] at r2
                  exact ⟨hW2, cell_pin hpin c0, c35, r1, r2, r3 _⟩
                have HT : Hid (∀ w5 v5, LvW w0 A f e gd (lvN l (H.take i) ++ [(atH H i).nm]) (lvH l (H.take i)) G (lvL l d (H.take i) L M).1 (lvL l d (H.take i) L M).2 v5 u8 w5 → w5.cell? ⟨f, 0, none⟩ = some (.pointer (some ⟨g, 0, none⟩)) → w5.cell? ⟨f, 3, none⟩ = some (.slice (some ⟨b, 0, none⟩) n c) →
                    Calls Tryd.prog 57 #[.pointer (some ⟨f, 0, none⟩), .int .i64 i, .int .i64 5] (w5.setCell ⟨b, i * 3 + 2, none⟩ (.bool true)) fun r w' => r = .returned (.bool (St.did (atH H i).st 5)) ∧ LvW w0 A f e gd (lvN l (H.take i) ++ [(atH H i).nm]) (lvH l (H.take i)) (setS (setV G i true) i s') (lvL l d (H.take i) L M).1 (lvL l d (H.take i) L M).2 v5 u8 w' ∧ w'.cell? ⟨f, 0, none⟩ = some (.pointer (some ⟨g, 0, none⟩)) ∧ w'.cell? ⟨f, 3, none⟩ = some (.slice (some ⟨b, 0, none⟩) n c)) := fun w5 v5 h5 c05 c35 => by
                  obtain ⟨h6, p6⟩ := h5.mark c35 hiG
                  exact (h6.turn i (by rw [setV_length]; exact hiG) 5 s' _ (by rw [hGV]; exact hs') (by rw [hGV])).mono fun r w' ⟨q1, q2, q3⟩ => ⟨q1, q2, cell_pin (q3.trans p6) c05, cell_pin (q3.trans p6) c35⟩
                have HR : Hid (∀ w7 v5 L7 M7, LvW w0 A f e gd (lvN l (H.take i) ++ [(atH H i).nm]) (lvH l (H.take i)) (setS (setV G i true) i s') L7 M7 v5 u8 w7 → w7.cell? ⟨f, 3, none⟩ = some (.slice (some ⟨b, 0, none⟩) n c) → b < w7.heap.size ∧ w7.cell? ⟨b, i * 3, none⟩ = some (.string (atH H i).nm) ∧ w7.cell? ⟨b, i * 3 + 1, none⟩ = some (.int .i64 s') ∧ w7.cell? ⟨b, i * 3 + 2, none⟩ = some (.bool true) ∧ (w7.alloc (.cells #[.string (atH H i).nm, .int .i64 s', .bool true] 97)).ownsRow w0.heap.size 97 3 u8 (lvH l (H.take i)).length (hcs (lvH l (H.take i))) ∧ w0.heap.size ≤ w7.heap.size) := fun w7 v5 L7 M7 h7 c37 => by
                  obtain ⟨r0, r1, r2, r3, -⟩ := h7.fin.atRow c37 (by rw [hGL, HN.out]; exact hin)
                  rw [hG2] at r1 r2 r3
                  exact ⟨r0, r1, r2, r3, h7.o8.alloc _, h7.kp.size⟩
                have h3' : ((atH H i).st == 3) = false := beq_eq_false_iff_ne.2 h3
                cases hdid : St.did (atH H i).st 5 with
                | false =>
                  rw [hdid] at HT
                  have HEND : Hid (∀ w7 v5 w9 g9 c9, LvW w0 A f e gd (lvN l (H.take i) ++ [(atH H i).nm]) (lvH l (H.take i)) (setS (setV G i true) i s') (lvL l d (H.take i) L M).1 (lvL l d (H.take i) L M).2 v5 u8 w7 → w9.ownsRow w0.heap.size 97 3 (.slice (some ⟨g9, 0, none⟩) ((lvH l (H.take i)).length + 1) c9) ((lvH l (H.take i)).length + 1) (hcs (lvH l (H.take i) ++ [⟨(atH H i).nm, s', true⟩])) → (w7.alloc (.cells #[.string (atH H i).nm, .int .i64 s', .bool true] 97)).grownBy w9 u8.ownBlock → (u8.ownBlock = some g9 ∨ g9 = (w7.alloc (.cells #[.string (atH H i).nm, .int .i64 s', .bool true] 97)).heap.size) →
                      LvI w0 A f e gd l d H L M (i + 1) v5 (.slice (some ⟨g9, 0, none⟩) ((lvH l (H.take i)).length + 1) c9) w9) := fun w7 v5 w9 g9 c9 h7 o9 gr9 at9 =>
                    LvI.left (by rw [HN.out]; exact hin) HNOW.out h3 hdid (by rw [hs']; exact (h7.below ((Below.refl _ w7).alloc (Nat.le_refl _) _)).app8 rfl o9 gr9 at9) hGL hGJ2 HML.out
                  clear h3 hlv hdid hs' hG2 hGV hGL hGJ2
                  generalize (atH H i).nm = x at *
                  generalize (atH H i).st = st at *
                  generalize setS (setV G i true) i s' = G2 at *
                  generalize (lvL l d (H.take i) L M).1 = L7 at *
                  generalize (lvL l d (H.take i) L M).2 = M7 at *
                  generalize lvN l (H.take i) = O at *
                  generalize hns : O.length = ns at *
                  generalize lvH l (H.take i) = S at *
                  generalize hnt : S.length = nt at *
                  go_upto_region 15 with (at_builtin; refine wpList_str1 _ rfl _ _ rfl w0.heap.size _ ns O x rfl hO7 _ 1 rfl (news_one wr (.string x) 9 0 _ rfl) hOl (by simp; omega) ?_; intro g5 c6 w5 o5 gr5 at5)
                  obtain ⟨hW5, c05, c35, r1, r2, r3⟩ := HDONE.out w5 g5 c6 o5 gr5 at5
                  have ht := HT.out w5 _ hW5 c05 c35
                  clear o5 gr5 at5 hW5 y0 y1 y2 c0 c3 c05 c35 hO7 hbs hfl hb hfz
                  go_upto_region 19 with (go_at_call 57; refine ht.mono ?_; rintro e w7 ⟨rfl, hW7, c07, c37⟩)
                  obtain ⟨t0, t1, t2, t3, t4, t5⟩ := HR.out w7 _ _ _ hW7 c37
                  have HW7 := Hid.mk' hW7
                  clear hW7 c07 c37 ht r1 r2 r3
                  go_wp2_with (at_builtin; refine wpList_host1 _ rfl _ _ rfl w0.heap.size _ nt S ⟨x, s', true⟩ rfl t4 _ 1 rfl (host_at w7 x s' true) hSl (by simp; omega) ?_; intro g9 c9 w9 o9 gr9 at9)
                  have HE := Hid.mk' (HEND.out w7 _ w9 g9 c9 HW7.out o9 gr9 at9)
                  clear o9 gr9 at9
                  go_wp2
                  go_meet
                  exact HE.out
                | true =>
                  rw [hdid] at HT
                  have HEND : Hid (∀ w7 v5 w9 g9 c9, LvW w0 A f e gd (lvN l (H.take i) ++ [(atH H i).nm]) (lvH l (H.take i)) (setS (setV G i true) i s') (begL (atH H i).nm (lvL l d (H.take i) L M).1 (lvL l d (H.take i) L M).2) (begM (atH H i).nm d (lvL l d (H.take i) L M).2) v5 u8 w7 → w9.ownsRow w0.heap.size 97 3 (.slice (some ⟨g9, 0, none⟩) ((lvH l (H.take i)).length + 1) c9) ((lvH l (H.take i)).length + 1) (hcs (lvH l (H.take i) ++ [⟨(atH H i).nm, s', true⟩])) → (w7.alloc (.cells #[.string (atH H i).nm, .int .i64 s', .bool true] 97)).grownBy w9 u8.ownBlock → (u8.ownBlock = some g9 ∨ g9 = (w7.alloc (.cells #[.string (atH H i).nm, .int .i64 s', .bool true] 97)).heap.size) →
                      LvI w0 A f e gd l d H L M (i + 1) v5 (.slice (some ⟨g9, 0, none⟩) ((lvH l (H.take i)).length + 1) c9) w9) := fun w7 v5 w9 g9 c9 h7 o9 gr9 at9 =>
                    LvI.leftB (by rw [HN.out]; exact hin) HNOW.out h3 hdid (by rw [hs']; exact (h7.below ((Below.refl _ w7).alloc (Nat.le_refl _) _)).app8 rfl o9 gr9 at9) hGL hGJ2 HML.out
                  have HB : Hid (∀ w7 v5, LvW w0 A f e gd (lvN l (H.take i) ++ [(atH H i).nm]) (lvH l (H.take i)) (setS (setV G i true) i s') (lvL l d (H.take i) L M).1 (lvL l d (H.take i) L M).2 v5 u8 w7 → w7.cell? ⟨f, 0, none⟩ = some (.pointer (some ⟨g, 0, none⟩)) → w7.cell? ⟨f, 3, none⟩ = some (.slice (some ⟨b, 0, none⟩) n c) →
                      Calls Tryd.prog 59 #[.pointer (some ⟨g, 0, none⟩), .string (atH H i).nm, .int .i64 d] w7.drew fun r w' => r = .returned (.int .i64 (begE (atH H i).nm (lvL l d (H.take i) L M).2)) ∧ LvW w0 A f e gd (lvN l (H.take i) ++ [(atH H i).nm]) (lvH l (H.take i)) (setS (setV G i true) i s') (begL (atH H i).nm (lvL l d (H.take i) L M).1 (lvL l d (H.take i) L M).2) (begM (atH H i).nm d (lvL l d (H.take i) L M).2) v5 u8 w' ∧ w'.cell? ⟨f, 0, none⟩ = some (.pointer (some ⟨g, 0, none⟩)) ∧ w'.cell? ⟨b, i * 3, none⟩ = some (.string (atH H i).nm) ∧ w'.cell? ⟨f, 3, none⟩ = some (.slice (some ⟨b, 0, none⟩) n c)) := fun w7 v5 h7 c07 c37 => by
                    refine (h7.drew.beg (g := g) c07 (atH H i).nm d hsz hmb).mono fun r w' ⟨q1, q2, q3⟩ => ?_
                    have q3' : w'.heap[f]? = w7.heap[f]? := q3
                    have r1 := (q2.fin.atRow (cell_pin q3' c37) (by rw [hGL, HN.out]; exact hin)).2.1
                    rw [hG2] at r1
                    exact ⟨q1, q2, cell_pin q3' c07, r1, cell_pin q3' c37⟩
                  clear h3 hlv hdid hs' hG2 hGV hGL hGJ2
                  generalize (atH H i).nm = x at *
                  generalize (atH H i).st = st at *
                  generalize setS (setV G i true) i s' = G2 at *
                  generalize (lvL l d (H.take i) L M).1 = L7 at *
                  generalize (lvL l d (H.take i) L M).2 = M7 at *
                  generalize begL x L7 M7 = L8 at *
                  generalize begM x d M7 = M8 at *
                  generalize lvN l (H.take i) = O at *
                  generalize hns : O.length = ns at *
                  generalize lvH l (H.take i) = S at *
                  generalize hnt : S.length = nt at *
                  go_upto_region 15 with (at_builtin; refine wpList_str1 _ rfl _ _ rfl w0.heap.size _ ns O x rfl hO7 _ 1 rfl (news_one wr (.string x) 9 0 _ rfl) hOl (by simp; omega) ?_; intro g5 c6 w5 o5 gr5 at5)
                  obtain ⟨hW5, c05, c35, r1, r2, r3⟩ := HDONE.out w5 g5 c6 o5 gr5 at5
                  have ht := HT.out w5 _ hW5 c05 c35
                  clear o5 gr5 at5 hW5 y0 y1 y2 c0 c3 c05 c35 hO7 hbs hfl hb hfz
                  go_upto_region 18 with (go_at_call 57; refine ht.mono ?_; rintro e w7 ⟨rfl, hW7, c07, c37⟩)
                  have t1 := (HR.out w7 _ _ _ hW7 c37).2.1
                  have hbg := HB.out w7 _ hW7 c07 c37
                  clear hW7 c37 ht r1 r2 r3
                  go_region_held3 (fun w' => w'.cell? ⟨f, 0, none⟩ = some (.pointer (some ⟨g, 0, none⟩)) ∧ w'.cell? ⟨b, i * 3, none⟩ = some (.string x)) (first | assumption | exact ⟨c07, t1⟩ | exact ⟨k0, k1⟩ | go_keep)
                    (first | (go_at_call 59; refine hbg.mono ?_; rintro e w8 ⟨rfl, hW8, k0, k1, c38⟩))
                  obtain ⟨t0, t1', t2, t3, t4, t5⟩ := HR.out w8 _ _ _ hW8 c38
                  have HW8 := Hid.mk' hW8
                  clear hW8 c38 c07 t1 hbg k0 k1
                  go_wp2_with (at_builtin; refine wpList_host1 _ rfl _ _ rfl w0.heap.size _ nt S ⟨x, s', true⟩ rfl t4 _ 1 rfl (host_at w8 x s' true) hSl (by simp; omega) ?_; intro g9 c9 w9 o9 gr9 at9)
                  have HE := Hid.mk' (HEND.out w8 _ w9 g9 c9 HW8.out o9 gr9 at9)
                  clear o9 gr9 at9
                  go_wp2
                  go_meet
                  exact HE.out
      case rest =>
        go_wp2
        exact ⟨⟨i + 1, by simp, by omega, hcut⟩, by simp [intOf]; omega⟩
    · obtain rfl : n = i := by omega
      obtain ⟨G, hW, -, -, -⟩ := hI
      have e1 : H.take n = H := List.take_of_length_le (by rw [HN.out]; exact Nat.le_refl _)
      rw [e1] at hW
      obtain ⟨a8, c8, e8⟩ : ∃ a8 c8, u8 = .slice a8 (lvH l H).length c8 := by
        rcases hW.o8.2 with ⟨q1, q2⟩ | ⟨q1, q2, q3, q4, _⟩
        · exact ⟨none, 0, by rw [q1, q2]⟩
        · exact ⟨_, _, q4⟩
      obtain ⟨hfz, ⟨y, hy⟩, hE⟩ := hW.done e8 rfl
      clear hW e1 HI
      subst e8
      have HE := Hid.mk' hE
      clear hE
      go_wp2
      rw [Exit.noGoto_ret]
      go_ret
      exact ⟨_, rfl, HE.out.2.2, HE.out.1, HE.out.2.1⟩
end

end Go.Proofs.YtmlkpfkeeifgeaaDoor
