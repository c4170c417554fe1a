/-
  Several texts in one: Opens, Steps, Early, StepW.
-/
import Derived.Test.YtmlkpfkeeifgeaaDoorSt
import Derived.Test.YtmlkpfkeeifgeaaDoorStrs
import Derived.Lib.SmallJoins
import Derived.Deep.Slices
import Derived.Test.YtmlkpfkeeifgeaaDoorGood
import Derived.Deep.AppendLies
import Derived.Test.YtmlkpfkeeifgeaaDoorMem
import Derived.Test.YtmlkpfkeeifgeaaDoorM1
import Derived.Test.YtmlkpfkeeifgeaaDoorFOps2
namespace Go.Proofs.YtmlkpfkeeifgeaaDoor
open Go.ChangeShapes Go.WideShapes Go.ChangeAt Go.RowKit Go.Joins Go.Deep

def laidL : List (String × DataW Unit) := St.laidL
theorem door_met (os : Os) (args : Array Value) : laidMetH Tryd.prog laidL ((World.doorLaid Tryd.prog 40 os).forCall (fun _ _ => 0) ⟨#[], args, []⟩).memory := St.door_met os args
theorem tabs_of_laid {W : World} (h : laidMetH Tryd.prog laidL W) : St.Tabs W := St.tabs_of_laid h
theorem cells47 : Tryd.prog.cellsOf 47 = 2 := by kernel_rfl

section
variable {H : Type} {enc : TypeId × Value → H} {W : World} {r : Reach} {b0 : Nat} {v : Value} {d : DataW H} {p : List MemPlace}
set_option maxRecDepth 100000 in
theorem open_arr2 (hv : Value.okWide Tryd.prog W r b0 47 v) (h : DataW.Trod enc Tryd.prog W 0 (fun _ => true) true 47 v d p) :
    ∃ x y, v = .agg #[.int .i64 x, .int .i64 y] := by
  unfold Value.okWide at hv
  rw [Tryd.underlying47] at hv
  obtain ⟨cs, rfl, hsz, _⟩ := hv
  rw [cells47] at hsz
  obtain ⟨fuel, hf⟩ := h
  obtain ⟨xs, m, _, _, _, hxl, hel⟩ := DataW.trod_array Tryd.underlying47 hf
  obtain ⟨cs⟩ := cs
  match cs, hsz with
  | [c0, c1], _ =>
    have e0 := hel 0 (by decide)
    have e1 := hel 1 (by decide)
    match xs, hxl with
    | [y0, y1], _ =>
      rw [cells3] at e0 e1
      simp [Value.cells] at e0 e1
      obtain ⟨k0, q0, _, _⟩ := DataW.trod_int Tryd.underlying3 e0
      obtain ⟨k1, q1, _, _⟩ := DataW.trod_int Tryd.underlying3 e1
      simp at q0 q1
      exact ⟨k0, k1, by rw [q0, q1]⟩
end
end Go.Proofs.YtmlkpfkeeifgeaaDoor
namespace Go.Proofs.YtmlkpfkeeifgeaaDoor
open Go.ChangeShapes Go.WideShapes Go.ChangeAt Go.RowKit Go.Joins Go.Deep

theorem cells27 : Tryd.prog.cellsOf 27 = 1 := by kernel_rfl
theorem cells36 : Tryd.prog.cellsOf 36 = 4 := by kernel_rfl
theorem info36 : (Tryd.prog.info? 36).map (fun i => (i.zero, i.size, i.bytes)) = some (some (.agg #[.int .i64 0, .int .i64 0, .string ⟨#[]⟩, .slice none 0 0]), 4, 56) := by kernel_rfl

/-- A step: its kind, its number, its name, those that may. -/
structure Stp where
  kd : Int
  n : Int
  nm : ByteArray
  ma : Option Addr
  ml : Nat
  mc : Nat
  ms : List ByteArray
def s0 : Stp := ⟨0, 0, ⟨#[]⟩, none, 0, 0, []⟩
/-- Its cells. -/
def cc (s : Stp) : List Value := [.int .i64 s.kd, .int .i64 s.n, .string s.nm, .slice s.ma s.ml s.mc]

/-- The slice (a, len, cap) reads as the steps ss. -/
structure StepsAt (w : World) (a : Option Addr) (len cap : Nat) (ss : List Stp) : Prop where
  hlen : ss.length = len
  hle : len ≤ cap
  hcap : cap ≤ maxLen
  rd : ∀ j, j < len → ∃ b off, a = some ⟨b, off, none⟩ ∧ b < w.heap.size ∧ (∀ i u, (cc (ss.getD j s0))[i]? = some u → w.cell? ⟨b, off + j * 4 + i, none⟩ = some u) ∧ (ss.getD j s0).nm.size ≤ maxLen ∧ StrsAt w (ss.getD j s0).ma (ss.getD j s0).ml (ss.getD j s0).mc (ss.getD j s0).ms ∧ ∀ x ∈ (ss.getD j s0).ms, x.size ≤ maxLen

theorem StepsAt.below {w w' : World} {a : Option Addr} {len cap : Nat} {zs : List Stp} (h : StepsAt w a len cap zs) (hb : Below w.heap.size w w') : StepsAt w' a len cap zs := by
  refine ⟨h.hlen, h.hle, h.hcap, fun j hj => ?_⟩
  obtain ⟨b, off, e, hlt, h0, h1, h2, h3⟩ := h.rd j hj
  exact ⟨b, off, e, Nat.lt_of_lt_of_le hlt hb.size, fun i u hu => (hb.cell (p := ⟨b, off + j * 4 + i, none⟩) hlt).trans (h0 i u hu), h1, h2.below (Nat.le_refl _) hb, h3⟩

section
variable {H : Type} {enc : TypeId × Value → H} {W : World} {r : Reach} {b0 : Nat} {v : Value} {d : DataW H} {p : List MemPlace}

theorem strs_of {n : Nat} {c : Value} {y : DataW H × List MemPlace} (hf : DataW.trod enc Tryd.prog W 0 (fun _ => true) true n 27 [c] = some y) :
    ∃ a len cap ss, c = .slice a len cap ∧ StrsAt W a len cap ss ∧ ∀ s ∈ ss, s.size ≤ maxLen := by
  rcases open_strs Tryd.underlying27 Tryd.underlying9 cells9 hf with ⟨hcs, _⟩ | ⟨x, l, c, m, Sx, hcs, _, hl, hm, hmm, _, hcell⟩
  · simp at hcs
    subst hcs
    exact ⟨_, _, _, [], rfl, StrsAt.nil _ _ _ (Nat.zero_le _), fun s hs => by cases hs⟩
  · simp at hcs
    subst hcs
    simp only [if_true] at hmm
    subst hmm
    refine ⟨_, _, _, (List.range l).map Sx, rfl, ⟨by simp, hl, hm, fun j hj => ?_⟩, fun s hs => by
      obtain ⟨j, hj, rfl⟩ := List.mem_map.1 hs
      have hj' := List.mem_range.1 hj
      exact (hcell j (by omega)).2⟩
    obtain ⟨b, off, spot⟩ := x
    have h0 := (hcell j (by omega)).1
    have hspot : spot = none := by
      have h00 := (hcell 0 (by omega)).1
      simpa [Addr.add] using World.cell?_spot h00
    subst hspot
    have e0 : ((⟨b, off, none⟩ : Addr).add j) = ⟨b, off + j, none⟩ := by unfold Addr.add; split <;> simp_all
    rw [e0] at h0
    refine ⟨b, off, rfl, World.block_lt_of_cell? W _ h0, h0.trans ?_⟩
    simp [List.getD, hj]

set_option maxRecDepth 100000 in
theorem open_steps (hv : Value.okWide Tryd.prog W r b0 22 v) (h : DataW.Trod enc Tryd.prog W 0 (fun _ => true) true 22 v d p) :
    ∃ a len cap ss, v = .slice a len cap ∧ StepsAt W a len cap ss := by
  obtain ⟨a0, len, cap, rfl⟩ := okWide_slice Tryd.underlying22 hv
  obtain ⟨fuel, hf⟩ := h
  rcases open_slice Tryd.underlying22 hf with ⟨hcs, _⟩ | ⟨x, l, c, m, n, D, Pl, hcs, _, hl, hm, hmm, _, hel⟩
  · simp [Value.cells] at hcs
    obtain ⟨rfl, rfl, rfl⟩ := hcs
    exact ⟨_, _, _, [], rfl, ⟨rfl, Nat.le_refl _, Nat.zero_le _, fun j hj => absurd hj (Nat.not_lt_zero _)⟩⟩
  · simp [Value.cells] at hcs
    obtain ⟨rfl, rfl, rfl⟩ := hcs
    simp only [if_true] at hmm
    subst hmm
    rw [cells36] at hel
    have hall : ∀ i, i < len → ∃ f : Stp, (∀ k u, (cc f)[k]? = some u → W.cell? (x.add (i * 4 + k)) = some u) ∧ f.nm.size ≤ maxLen ∧ StrsAt W f.ma f.ml f.mc f.ms ∧ ∀ s ∈ f.ms, s.size ≤ maxLen := by
      intro i hi
      obtain ⟨cs', hc, ht⟩ := hel i (by omega)
      obtain ⟨y0, y1, y2, y3, n', _, hlen, hy0, hy1, hy2, hy3⟩ := trod_struct4 Tryd.underlying36 ht
      obtain ⟨_, _, hcell⟩ := World.cells?_some hc
      rw [cells36] at hlen
      match cs', hlen with
      | [c0, c1, c2, c3], _ =>
        rw [show Tryd.prog.cellsOf 3 = 1 from cells3] at hy0 hy1
        rw [show Tryd.prog.cellsOf 9 = 1 from cells9] at hy2
        rw [show Tryd.prog.cellsOf 27 = 1 from cells27] at hy3
        obtain ⟨k, e0, _, _⟩ := DataW.trod_int Tryd.underlying3 hy0
        obtain ⟨k1, e1, _, _⟩ := DataW.trod_int Tryd.underlying3 hy1
        obtain ⟨s2, e2, _, hs2⟩ := DataW.trod_string Tryd.underlying9 hy2
        obtain ⟨a3, l3, cp3, ss3, e3, hs3, hz3⟩ := strs_of (c := c3) hy3
        simp at e0 e1 e2
        subst e0 e1 e2 e3
        have q0 := hcell 0 (by omega)
        have q1 := hcell 1 (by omega)
        have q2 := hcell 2 (by omega)
        have q3 := hcell 3 (by omega)
        rw [add_add] at q0 q1 q2 q3
        refine ⟨⟨k, k1, s2, a3, l3, cp3, ss3⟩, fun t u hu => ?_, hs2, hs3, hz3⟩
        match t, hu with
        | 0, hu => simp [cc] at hu; subst hu; simpa using q0
        | 1, hu => simp [cc] at hu; subst hu; simpa using q1
        | 2, hu => simp [cc] at hu; subst hu; simpa using q2
        | 3, hu => simp [cc] at hu; subst hu; simpa using q3
    have hinh : Inhabited Stp := ⟨s0⟩
    obtain ⟨F, hF⟩ := choose_lt hall
    refine ⟨_, _, _, (List.range len).map F, rfl, ⟨by simp, hl, hm, fun j hj => ?_⟩⟩
    obtain ⟨b, off, spot⟩ := x
    obtain ⟨q0, q1, q2, q3⟩ := hF j hj
    have hspot : spot = none := by
      have h00 := (hF 0 (by omega)).1 0 _ rfl
      simpa [Addr.add] using World.cell?_spot h00
    subst hspot
    have e1 : ((List.range len).map F).getD j s0 = F j := by simp [List.getD, hj]
    rw [e1]
    have e0 : ∀ t, ((⟨b, off, none⟩ : Addr).add (j * 4 + t)) = ⟨b, off + j * 4 + t, none⟩ := fun t => by unfold Addr.add; split <;> simp_all [Nat.add_assoc]
    have q4 := q0 0 _ rfl
    rw [e0] at q4
    refine ⟨b, off, rfl, World.block_lt_of_cell? W _ q4, fun t u hu => ?_, q1, q2, q3⟩
    rw [← e0]
    exact q0 t u hu


set_option maxRecDepth 100000 in
theorem open_step (hv : Value.okWide Tryd.prog W r b0 36 v) (h : DataW.Trod enc Tryd.prog W 0 (fun _ => true) true 36 v d p) :
    ∃ st : Stp, v = .agg #[.int .i64 st.kd, .int .i64 st.n, .string st.nm, .slice st.ma st.ml st.mc] ∧ st.nm.size ≤ maxLen ∧ StrsAt W st.ma st.ml st.mc st.ms ∧ ∀ s ∈ st.ms, s.size ≤ maxLen := by
  unfold Value.okWide at hv
  rw [Tryd.underlying36] at hv
  obtain ⟨cs, rfl, hsz, _⟩ := hv
  rw [cells36] at hsz
  obtain ⟨fuel, hf⟩ := h
  obtain ⟨y0, y1, y2, y3, n', _, hlen, hy0, hy1, hy2, hy3⟩ := trod_struct4 Tryd.underlying36 hf
  obtain ⟨cs⟩ := cs
  match cs, hsz with
  | [c0, c1, c2, c3], _ =>
    rw [show Tryd.prog.cellsOf 3 = 1 from cells3] at hy0 hy1
    rw [show Tryd.prog.cellsOf 9 = 1 from cells9] at hy2
    rw [show Tryd.prog.cellsOf 27 = 1 from cells27] at hy3
    obtain ⟨k, e0, _, _⟩ := DataW.trod_int Tryd.underlying3 hy0
    obtain ⟨k1, e1, _, _⟩ := DataW.trod_int Tryd.underlying3 hy1
    obtain ⟨s2, e2, _, hs2⟩ := DataW.trod_string Tryd.underlying9 hy2
    obtain ⟨a3, l3, cp3, ss3, e3, hs3, hz3⟩ := strs_of (c := c3) hy3
    simp [Value.cells] at e0 e1 e2
    subst e0 e1 e2 e3
    exact ⟨⟨k, k1, s2, a3, l3, cp3, ss3⟩, rfl, hs2, hs3, hz3⟩
end

end Go.Proofs.YtmlkpfkeeifgeaaDoor
namespace Go.Proofs.YtmlkpfkeeifgeaaDoor
open Go.ChangeShapes Go.WideShapes Go.ChangeAt Go.RowKit

def kindI (k : Int) : Int := wrap64 ((IntKind.u64.wrap k).tmod 8)
theorem kindI_of (k : Int) : kindI k = 0 ∨ kindI k = 1 ∨ kindI k = 2 ∨ kindI k = 3 ∨ kindI k = 4 ∨ kindI k = 5 ∨ kindI k = 6 ∨ kindI k = 7 := by
  have := um_bd 8 k (by decide) (by decide)
  unfold kindI
  omega

theorem kind_step (a b : Int) (c d : Value) (w : World) : Calls Tryd.prog 19 #[.agg #[.int .i64 a, .int .i64 b, c, d]] w fun e w' => e = .returned (.int .i64 (kindI a)) ∧ Below w.heap.size w w' := by
  go_enter Tryd.func19, Tryd.ntmps19
  go_wp2
  go_ret
  exact ⟨rfl, (Below.refl _ _).alloc (Nat.le_refl _) _⟩

/-- A step with the first 20 bytes of its name. -/
def tr (s : Stp) : Stp := ⟨s.kd, s.n, if s.nm.size ≤ 20 then s.nm else s.nm.extract 0 20, s.ma, min s.ml 20, s.mc, s.ms.take 20⟩
theorem tr_size (s : Stp) : (tr s).nm.size ≤ 20 := by
  unfold tr
  simp only
  split
  · assumption
  · rw [ByteArray.size_extract]
    omega
def trs (l : List Stp) : List Stp := l.map tr
theorem trs_length (l : List Stp) : (trs l).length = l.length := List.length_map _
theorem trs_snoc {l : List Stp} {i : Nat} (h : i < l.length) : trs (l.take (i + 1)) = trs (l.take i) ++ [tr (l.getD i s0)] := by
  unfold trs
  rw [List.take_add_one, List.map_append]
  simp [List.getD, h]
/-- Steps as cells. -/
def sf : List Stp → List Value
  | [] => []
  | s :: l => cc s ++ sf l
theorem sf_append : ∀ l m, sf (l ++ m) = sf l ++ sf m
  | [], _ => rfl
  | s :: l, m => by simp [sf, sf_append l m]
theorem sf_length : ∀ l, (sf l).length = l.length * 4
  | [] => rfl
  | s :: l => by
    have := sf_length l
    simp [sf, cc, this]
    omega
theorem sf_get : ∀ (l : List Stp) (j i : Nat) (u : Value), j < l.length → i < 4 → (cc (l.getD j s0))[i]? = some u → (sf l)[j * 4 + i]? = some u
  | [], j, i, u, h, _, _ => by simp at h
  | s :: l, 0, i, u, h, hi, hu => by
    have : i < (cc s).length := hi
    simp only [sf, Nat.zero_mul, Nat.zero_add]
    rw [List.getElem?_append_left this]
    simpa using hu
  | s :: l, j + 1, i, u, h, hi, hu => by
    have e1 : (j + 1) * 4 + i = (cc s).length + (j * 4 + i) := by simp [cc]; omega
    simp only [sf]
    rw [e1, List.getElem?_append_right (by omega), Nat.add_sub_cancel_left]
    exact sf_get l j i u (by simpa using h) hi (by simpa using hu)
theorem cc_one (s : Stp) : ∀ u ∈ cc s, u.oneCell' = true := by
  intro u hu
  simp [cc] at hu
  rcases hu with rfl | rfl | rfl | rfl <;> rfl

set_option maxHeartbeats 2000000 in
set_option maxRecDepth 100000 in
theorem early_own (a : Option Addr) (len cap n : Nat) (ss : List Stp) (w : World) (h : StepsAt w a len cap ss) (hn : min len 80 = n) :
    Calls Tryd.prog 13 #[.slice a len cap] w fun e w' => ∃ v, e = .returned v ∧ w'.ownsRow w.heap.size 36 4 v n (sf (trs (ss.take n))) ∧ Below w.heap.size w w' := by
  obtain ⟨i0, hi, hz0, hz1, hz2⟩ := info_parts info36
  have hle := h.hle
  have hcap := h.hcap
  unfold maxLen at hcap
  have HL := Hid.mk' h.hlen
  have H : Hid (StepsAt w a len cap ss) := h
  have hn1 : n ≤ len := by omega
  have hn2 : n ≤ 80 := by omega
  have hn3 : len = n ∨ n = 80 := by omega
  clear h hn
  go_enter Tryd.func13, Tryd.ntmps13
  go_wp2
  go_loopw [4, 3] (fun v4 v wr => ∃ i : Nat, v4 = .int .i64 i ∧ i ≤ n ∧ wr.ownsRow w.heap.size 36 4 v i (sf (trs (ss.take i))) ∧ Below w.heap.size w wr) (fun v4 _ _ => n + 1 - (intOf v4).toNat)
  case atStart => exact ⟨0, rfl, Nat.zero_le _, by simpa [trs, sf] using World.ownsRow_nil _ _ _ _, Below.refl _ _⟩
  case round =>
    obtain ⟨i, rfl, hin0, hown, hbel⟩ := hrel
    by_cases hin : i < n
    · obtain ⟨b, off, rfl, hb, hcc, hsz, hms⟩ := (H.out.below hbel).rd i (by omega)
      have x0 := hcc 0 _ rfl
      have x1 := hcc 1 _ rfl
      have x2 := hcc 2 _ rfl
      have x3 := hcc 3 _ rfl
      rw [Nat.add_zero] at x0
      have HS := Hid.mk' (trs_snoc (l := ss) (i := i) (by rw [HL.out]; omega))
      have HT : Hid (cc (tr (ss.getD i s0)) = [.int .i64 (ss.getD i s0).kd, .int .i64 (ss.getD i s0).n, .string (if (ss.getD i s0).nm.size ≤ 20 then (ss.getD i s0).nm else (ss.getD i s0).nm.extract 0 20), .slice (ss.getD i s0).ma (min (ss.getD i s0).ml 20) (ss.getD i s0).mc]) := rfl
      generalize htr : tr (ss.getD i s0) = st at *
      have hmle := hms.1.hle
      have hmcm := hms.1.hcap
      unfold maxLen at hmcm
      clear htr hcc hms
      generalize (ss.getD i s0).nm = nm at *
      generalize (ss.getD i s0).kd = kd at *
      generalize (ss.getD i s0).n = nn at *
      generalize (ss.getD i s0).ma = ma at *
      generalize (ss.getD i s0).ml = ml at *
      generalize (ss.getD i s0).mc = mc at *
      obtain ⟨av, cv, rfl⟩ : ∃ av cv, u3 = .slice av i cv := by
        rcases hown.2 with ⟨e, e2⟩ | ⟨g, cap, cur, e, _⟩
        · exact ⟨_, _, by rw [e, e2]⟩
        · exact ⟨_, _, e⟩
      have hi1 : (i : Int) < 80 := by omega
      have hi2 : (i : Int) < (len : Int) := by omega
      unfold maxLen at hsz
      by_cases hns : nm.size ≤ 20
      · by_cases hml : ml ≤ 20
        · have hns2 : (nm.size : Int) ≤ 20 := by omega
          have hml2 : (ml : Int) ≤ 20 := by omega
          have HT2 : Hid (cc st = [.int .i64 kd, .int .i64 nn, .string nm, .slice ma ml mc]) := by show _ = _; rw [HT.out]; simp [hns]; omega
          have hw1 : Below w.heap.size w (wr.alloc (.cells #[.int .i64 kd, .int .i64 nn, .string nm, .slice ma ml mc] 36)) := hbel.alloc hbel.size _
          have ho1 := hown.alloc (.cells #[.int .i64 kd, .int .i64 nn, .string nm, .slice ma ml mc] 36)
          have hnw : Hid (∀ j u, [Value.int .i64 kd, .int .i64 nn, .string nm, .slice ma ml mc][j]? = some u → ((wr.alloc (.cells #[.int .i64 kd, .int .i64 nn, .string nm, .slice ma ml mc] 36)).alloc (.cells #[.int .i64 kd, .int .i64 nn, .string nm, .slice ma ml mc] 36)).cell? ((⟨wr.heap.size + 1, 0, none⟩ : Addr).add j) = some u) := by
            have hh := World.news_of_block (heap_alloc_new (wr.alloc (.cells #[.int .i64 kd, .int .i64 nn, .string nm, .slice ma ml mc] 36)) (.cells #[.int .i64 kd, .int .i64 nn, .string nm, .slice ma ml mc] 36))
            rw [World.size_alloc] at hh
            exact hh
          have h1c : Hid (∀ u ∈ [Value.int .i64 kd, .int .i64 nn, .string nm, .slice ma ml mc], u.oneCell' = true) := by
            have := cc_one st
            rwa [HT2.out] at this
          clear hown HT
          go_wp2_with (first
            | (at_builtin; refine wpList_append_own _ rfl _ _ 22 rfl w.heap.size 36 i0 _ 4 56 Tryd.underlying22 hi hz0 hz1 hz2 rfl (by decide) _ i _ rfl (ho1.alloc _) ⟨wr.heap.size + 1, 0, none⟩ 1 1 [.int .i64 kd, .int .i64 nn, .string nm, .slice ma ml mc] rfl rfl hnw.out h1c.out (by unfold maxLen; omega) (by omega) (by have := hbel.size; simp; omega) ?_))
          intro v3 w3 hown3 hgrow3 _
          have hbel3 : Below w.heap.size w w3 := (hw1.alloc hw1.size _).grown hgrow3 (by have := hw1.size; simp at this; simp; omega) (fun j hj => (ho1.lt j hj).1)
          have hown4 : w3.ownsRow w.heap.size 36 4 v3 (i + 1) (sf (trs (ss.take (i + 1)))) := by
            rw [HS.out, sf_append]
            simp only [sf, List.append_nil]
            rw [HT2.out]
            exact hown3
          clear hown3 hgrow3 ho1 hbel hw1
          go_wp2
          exact ⟨⟨i + 1, by simp, by omega, hown4, hbel3⟩, by simp [intOf]; omega⟩
        · have hns2 : (nm.size : Int) ≤ 20 := by omega
          have hml2 : (20 : Int) < (ml : Int) := by omega
          have HT2 : Hid (cc st = [.int .i64 kd, .int .i64 nn, .string nm, .slice ma 20 mc]) := by show _ = _; rw [HT.out]; simp [hns]; omega
          have hw1 : Below w.heap.size w (wr.alloc (.cells #[.int .i64 kd, .int .i64 nn, .string nm, .slice ma 20 mc] 36)) := hbel.alloc hbel.size _
          have ho1 := hown.alloc (.cells #[.int .i64 kd, .int .i64 nn, .string nm, .slice ma 20 mc] 36)
          have hnw : Hid (∀ j u, [Value.int .i64 kd, .int .i64 nn, .string nm, .slice ma 20 mc][j]? = some u → ((wr.alloc (.cells #[.int .i64 kd, .int .i64 nn, .string nm, .slice ma 20 mc] 36)).alloc (.cells #[.int .i64 kd, .int .i64 nn, .string nm, .slice ma 20 mc] 36)).cell? ((⟨wr.heap.size + 1, 0, none⟩ : Addr).add j) = some u) := by
            have hh := World.news_of_block (heap_alloc_new (wr.alloc (.cells #[.int .i64 kd, .int .i64 nn, .string nm, .slice ma 20 mc] 36)) (.cells #[.int .i64 kd, .int .i64 nn, .string nm, .slice ma 20 mc] 36))
            rw [World.size_alloc] at hh
            exact hh
          have h1c : Hid (∀ u ∈ [Value.int .i64 kd, .int .i64 nn, .string nm, .slice ma 20 mc], u.oneCell' = true) := by
            have := cc_one st
            rwa [HT2.out] at this
          clear hown HT
          go_wp2_with (first
            | (at_builtin; refine wpList_append_own _ rfl _ _ 22 rfl w.heap.size 36 i0 _ 4 56 Tryd.underlying22 hi hz0 hz1 hz2 rfl (by decide) _ i _ rfl (ho1.alloc _) ⟨wr.heap.size + 1, 0, none⟩ 1 1 [.int .i64 kd, .int .i64 nn, .string nm, .slice ma 20 mc] rfl rfl hnw.out h1c.out (by unfold maxLen; omega) (by omega) (by have := hbel.size; simp; omega) ?_))
          intro v3 w3 hown3 hgrow3 _
          have hbel3 : Below w.heap.size w w3 := (hw1.alloc hw1.size _).grown hgrow3 (by have := hw1.size; simp at this; simp; omega) (fun j hj => (ho1.lt j hj).1)
          have hown4 : w3.ownsRow w.heap.size 36 4 v3 (i + 1) (sf (trs (ss.take (i + 1)))) := by
            rw [HS.out, sf_append]
            simp only [sf, List.append_nil]
            rw [HT2.out]
            exact hown3
          clear hown3 hgrow3 ho1 hbel hw1
          go_wp2
          exact ⟨⟨i + 1, by simp, by omega, hown4, hbel3⟩, by simp [intOf]; omega⟩
      · by_cases hml : ml ≤ 20
        · have hns2 : (20 : Int) < (nm.size : Int) := by omega
          have hml2 : (ml : Int) ≤ 20 := by omega
          have HT2 : Hid (cc st = [.int .i64 kd, .int .i64 nn, .string (nm.extract 0 20), .slice ma ml mc]) := by show _ = _; rw [HT.out]; simp [hns]; omega
          have hw1 : Below w.heap.size w (wr.alloc (.cells #[.int .i64 kd, .int .i64 nn, .string (nm.extract 0 20), .slice ma ml mc] 36)) := hbel.alloc hbel.size _
          have ho1 := hown.alloc (.cells #[.int .i64 kd, .int .i64 nn, .string (nm.extract 0 20), .slice ma ml mc] 36)
          have hnw : Hid (∀ j u, [Value.int .i64 kd, .int .i64 nn, .string (nm.extract 0 20), .slice ma ml mc][j]? = some u → ((wr.alloc (.cells #[.int .i64 kd, .int .i64 nn, .string (nm.extract 0 20), .slice ma ml mc] 36)).alloc (.cells #[.int .i64 kd, .int .i64 nn, .string (nm.extract 0 20), .slice ma ml mc] 36)).cell? ((⟨wr.heap.size + 1, 0, none⟩ : Addr).add j) = some u) := by
            have hh := World.news_of_block (heap_alloc_new (wr.alloc (.cells #[.int .i64 kd, .int .i64 nn, .string (nm.extract 0 20), .slice ma ml mc] 36)) (.cells #[.int .i64 kd, .int .i64 nn, .string (nm.extract 0 20), .slice ma ml mc] 36))
            rw [World.size_alloc] at hh
            exact hh
          have h1c : Hid (∀ u ∈ [Value.int .i64 kd, .int .i64 nn, .string (nm.extract 0 20), .slice ma ml mc], u.oneCell' = true) := by
            have := cc_one st
            rwa [HT2.out] at this
          clear hown HT
          go_wp2_with (first
            | (at_builtin; refine wpList_append_own _ rfl _ _ 22 rfl w.heap.size 36 i0 _ 4 56 Tryd.underlying22 hi hz0 hz1 hz2 rfl (by decide) _ i _ rfl (ho1.alloc _) ⟨wr.heap.size + 1, 0, none⟩ 1 1 [.int .i64 kd, .int .i64 nn, .string (nm.extract 0 20), .slice ma ml mc] rfl rfl hnw.out h1c.out (by unfold maxLen; omega) (by omega) (by have := hbel.size; simp; omega) ?_))
          intro v3 w3 hown3 hgrow3 _
          have hbel3 : Below w.heap.size w w3 := (hw1.alloc hw1.size _).grown hgrow3 (by have := hw1.size; simp at this; simp; omega) (fun j hj => (ho1.lt j hj).1)
          have hown4 : w3.ownsRow w.heap.size 36 4 v3 (i + 1) (sf (trs (ss.take (i + 1)))) := by
            rw [HS.out, sf_append]
            simp only [sf, List.append_nil]
            rw [HT2.out]
            exact hown3
          clear hown3 hgrow3 ho1 hbel hw1
          go_wp2
          exact ⟨⟨i + 1, by simp, by omega, hown4, hbel3⟩, by simp [intOf]; omega⟩
        · have hns2 : (20 : Int) < (nm.size : Int) := by omega
          have hml2 : (20 : Int) < (ml : Int) := by omega
          have HT2 : Hid (cc st = [.int .i64 kd, .int .i64 nn, .string (nm.extract 0 20), .slice ma 20 mc]) := by show _ = _; rw [HT.out]; simp [hns]; omega
          have hw1 : Below w.heap.size w (wr.alloc (.cells #[.int .i64 kd, .int .i64 nn, .string (nm.extract 0 20), .slice ma 20 mc] 36)) := hbel.alloc hbel.size _
          have ho1 := hown.alloc (.cells #[.int .i64 kd, .int .i64 nn, .string (nm.extract 0 20), .slice ma 20 mc] 36)
          have hnw : Hid (∀ j u, [Value.int .i64 kd, .int .i64 nn, .string (nm.extract 0 20), .slice ma 20 mc][j]? = some u → ((wr.alloc (.cells #[.int .i64 kd, .int .i64 nn, .string (nm.extract 0 20), .slice ma 20 mc] 36)).alloc (.cells #[.int .i64 kd, .int .i64 nn, .string (nm.extract 0 20), .slice ma 20 mc] 36)).cell? ((⟨wr.heap.size + 1, 0, none⟩ : Addr).add j) = some u) := by
            have hh := World.news_of_block (heap_alloc_new (wr.alloc (.cells #[.int .i64 kd, .int .i64 nn, .string (nm.extract 0 20), .slice ma 20 mc] 36)) (.cells #[.int .i64 kd, .int .i64 nn, .string (nm.extract 0 20), .slice ma 20 mc] 36))
            rw [World.size_alloc] at hh
            exact hh
          have h1c : Hid (∀ u ∈ [Value.int .i64 kd, .int .i64 nn, .string (nm.extract 0 20), .slice ma 20 mc], u.oneCell' = true) := by
            have := cc_one st
            rwa [HT2.out] at this
          clear hown HT
          go_wp2_with (first
            | (at_builtin; refine wpList_append_own _ rfl _ _ 22 rfl w.heap.size 36 i0 _ 4 56 Tryd.underlying22 hi hz0 hz1 hz2 rfl (by decide) _ i _ rfl (ho1.alloc _) ⟨wr.heap.size + 1, 0, none⟩ 1 1 [.int .i64 kd, .int .i64 nn, .string (nm.extract 0 20), .slice ma 20 mc] rfl rfl hnw.out h1c.out (by unfold maxLen; omega) (by omega) (by have := hbel.size; simp; omega) ?_))
          intro v3 w3 hown3 hgrow3 _
          have hbel3 : Below w.heap.size w w3 := (hw1.alloc hw1.size _).grown hgrow3 (by have := hw1.size; simp at this; simp; omega) (fun j hj => (ho1.lt j hj).1)
          have hown4 : w3.ownsRow w.heap.size 36 4 v3 (i + 1) (sf (trs (ss.take (i + 1)))) := by
            rw [HS.out, sf_append]
            simp only [sf, List.append_nil]
            rw [HT2.out]
            exact hown3
          clear hown3 hgrow3 ho1 hbel hw1
          go_wp2
          exact ⟨⟨i + 1, by simp, by omega, hown4, hbel3⟩, by simp [intOf]; omega⟩
    · obtain rfl : n = i := by omega
      by_cases hlt : n < len
      · have h80 : ¬ (n : Int) < 80 := by omega
        have hlt' : (n : Int) < (len : Int) := by omega
        go_wp2
        go_ret
        exact ⟨_, rfl, hown, hbel⟩
      · go_wp2
        go_ret
        exact ⟨_, rfl, hown, hbel⟩

theorem trs_getD {l : List Stp} {i : Nat} (h : i < l.length) : (trs l).getD i s0 = tr (l.getD i s0) := by
  unfold trs
  simp [List.getD, h]
theorem early_any (a : Option Addr) (len cap n : Nat) (ss : List Stp) (w : World) (h : StepsAt w a len cap ss) (hn : min len 80 = n) :
    Calls Tryd.prog 13 #[.slice a len cap] w fun e w' => ∃ a' c', e = .returned (.slice a' n c') ∧ StepsAt w' a' n c' (trs (ss.take n)) ∧ (∀ x, a' = some x → w.heap.size ≤ x.block ∧ x.block < w'.heap.size) ∧ Below w.heap.size w w' := by
  refine (early_own a len cap n ss w h hn).mono ?_
  rintro e w' ⟨v, rfl, ho, hb⟩
  have hl : ss.length = len := h.hlen
  have htl : (trs (ss.take n)).length = n := by rw [trs_length, List.length_take]; omega
  have ho' := ho
  rcases ho.2 with ⟨rfl, h0⟩ | ⟨g, c, cur, rfl, hg0, hg, hn1, hc, _, _⟩
  · subst h0
    exact ⟨none, 0, rfl, ⟨htl, Nat.le_refl _, Nat.zero_le _, fun j hj => absurd hj (Nat.not_lt_zero _)⟩, fun x hx => (by cases hx), hb⟩
  · refine ⟨_, c, rfl, ⟨htl, hn1, hc, fun j hj => ⟨g, 0, rfl, lt_of_heap hg, fun i u hu => ?_, ?_, ?_, ?_⟩⟩, fun x hx => (by cases hx; exact ⟨hg0, lt_of_heap hg⟩), hb⟩
    · have hi : i < 4 := (List.getElem?_eq_some_iff.1 hu).1
      have := ho'.cells (g := g) rfl (j * 4 + i) u (sf_get _ j i u (by omega) hi hu)
      have e0 : ((⟨g, 0, none⟩ : Addr).add (j * 4 + i)) = ⟨g, 0 + j * 4 + i, none⟩ := by unfold Addr.add; split <;> simp_all
      rw [e0] at this
      exact this
    all_goals
      have hjl : j < (ss.take n).length := by rw [List.length_take]; omega
      rw [trs_getD hjl]
      have e1 : (ss.take n).getD j s0 = ss.getD j s0 := by simp [List.getD, List.getElem?_take_of_lt hj]
      rw [e1]
      obtain ⟨b, off, e2, hlt, h1, h2, h3, h4⟩ := h.rd j (by omega)
    · have := tr_size (ss.getD j s0)
      unfold maxLen
      omega
    · have h3' := h3.below (Nat.le_refl _) hb
      have h5 := h3'.take (n := min (ss.getD j s0).ml 20) (Nat.min_le_left _ _)
      have e3 : (ss.getD j s0).ms.take (min (ss.getD j s0).ml 20) = (ss.getD j s0).ms.take 20 := by
        have h6 := h3.hlen
        by_cases h7 : (ss.getD j s0).ml ≤ 20
        · rw [Nat.min_eq_left h7, List.take_of_length_le (by omega), List.take_of_length_le (by omega)]
        · rw [Nat.min_eq_right (by omega)]
      rw [e3] at h5
      exact h5
    · intro x hx
      exact h4 x (List.mem_of_mem_take hx)

end Go.Proofs.YtmlkpfkeeifgeaaDoor
namespace Go.Proofs.YtmlkpfkeeifgeaaDoor
open Go.ChangeShapes Go.WideShapes Go.ChangeAt Go.RowKit

/-- What a step tells, and the state behind it. -/
structure Res where
  b : Bool
  E : Int
  P : List ByteArray
  Q : List ByteArray
  s : Fl
def stp (e gd k n : Int) (x : ByteArray) (l : List ByteArray) (s : Fl) : Res :=
  if k = 0 then ⟨false, reE l, reC l n s, reN l s, reS l n s⟩
  else if k = 1 then ⟨false, drE x s, [], [], drS x s⟩
  else if k = 2 then ⟨false, unE x s, [], [], unS x s⟩
  else if k = 3 then ⟨false, foE x s, [], [], foS x n s⟩
  else if k = 4 then ⟨false, ejE x e gd s, [], [], ejS x e gd s⟩
  else if k = 5 then ⟨false, 0, adN e gd n s, [], adS e gd n s⟩
  else if k = 6 then ⟨prB x s, 0, [], [], prS x s⟩
  else ⟨emB x s, 0, [], [], emS x s⟩

theorem put4 {w : World} {b : Nat} {x y z u : Value} {t : TypeId} (h : w.heap[b]? = some (.cells #[x, y, z, u] t (0, 0))) (p q r s : Value) :
    ((((w.setCell ⟨b, 0, none⟩ p).setCell ⟨b, 1, none⟩ q).setCell ⟨b, 2, none⟩ r).setCell ⟨b, 3, none⟩ s).heap[b]? = some (.cells #[p, q, r, s] t (0, 0)) ∧ Keep (fun k => k ≠ b) w ((((w.setCell ⟨b, 0, none⟩ p).setCell ⟨b, 1, none⟩ q).setCell ⟨b, 2, none⟩ r).setCell ⟨b, 3, none⟩ s) := by
  have h1 := heap_setCell_same w b 0 _ t p h
  have h2 := heap_setCell_same _ b 1 _ t q h1
  have h3 := heap_setCell_same _ b 2 _ t r h2
  have h4 := heap_setCell_same _ b 3 _ t s h3
  exact ⟨by rw [h4]; simp, (((((Keep.refl _ w).setCell (fun hn => hn rfl) _).setCell (fun hn => hn rfl) _).setCell (fun hn => hn rfl) _).setCell (fun hn => hn rfl) _)⟩

theorem own_form {w : World} {base n : Nat} {v : Value} {l : List ByteArray} (h : w.ownsRow base 9 1 v n (sc l)) : ∃ a n c, v = .slice a n c := by
  obtain ⟨a, c, e, -⟩ := owns_strs h
  exact ⟨a, _, c, e⟩
/-- What the step wants of the state. -/
structure Few (s : Fl) : Prop where
  inv : Inv s.L s.M
  hl : s.H.length ≤ 1900
  ml : s.M.length ≤ 2000
  hg : ∀ x ∈ hn s.H, nameB x = true
  lg : ∀ x ∈ nms s.L, nameB x = true

theorem Few.sz {s : Fl} (h : Few s) : ∀ i, i < s.H.length → (atH s.H i).nm.size ≤ maxLen := fun i hi => by
  have h1 : (atH s.H i).nm ∈ hn s.H := by rw [atH_eq hi]; exact List.mem_map_of_mem (List.getElem_mem hi)
  have := nameB_size (h.hg _ h1)
  unfold maxLen
  omega

section
variable {w : World} {A : Nat → Prop} {f : Nat} {e gd : Int} {s : Fl} {x : ByteArray} {l : List ByteArray} {n : Int} {ma : Option Addr} {ml mc : Nat}

theorem sc_0 (h : FA w A f e gd s) (hF : Few s) (_hs : x.size ≤ maxLen) (hl : StrsAt w ma ml mc l) (hls : ∀ y ∈ l, y.size ≤ maxLen) (hA : 0 < ml → ∀ z, ma = some z → A z.block) (R : Res) (hR : stp e gd 0 n x l s = R) :
    Calls Tryd.prog 21 #[.pointer (some ⟨f, 0, none⟩), .slice ma ml mc, .int .i64 n] w fun r w' => ∃ va vb, r = .returned (.tuple #[va, vb, .int .i64 R.E]) ∧ w'.ownsRow w.heap.size 9 1 va R.P.length (sc R.P) ∧ w'.ownsRow w.heap.size 9 1 vb R.Q.length (sc R.Q) ∧ FIn w' (fun k => (A k ∨ vb.ownBlock = some k) ∨ va.ownBlock = some k) f e gd R.s.H R.s.L R.s.M ∧ Keep A w w' := by
  have hfl := hF.hl
  have hfm := hF.ml
  subst hR
  exact fresolve_w0 h hF.inv ma ml mc hl hA hls n (by omega) (by omega) hF.sz

theorem sc_1 (h : FA w A f e gd s) (_hF : Few s) (hs : x.size ≤ maxLen) (_hl : StrsAt w ma ml mc l) (_hls : ∀ y ∈ l, y.size ≤ maxLen) (_hA : 0 < ml → ∀ z, ma = some z → A z.block) (R : Res) (hR : stp e gd 1 n x l s = R) :
    Calls Tryd.prog 23 #[.pointer (some ⟨f, 0, none⟩), .string x] w fun r w' => ∃ va vb, r = .returned (.int .i64 R.E) ∧ w'.ownsRow w.heap.size 9 1 va R.P.length (sc R.P) ∧ w'.ownsRow w.heap.size 9 1 vb R.Q.length (sc R.Q) ∧ FIn w' (fun k => (A k ∨ vb.ownBlock = some k) ∨ va.ownBlock = some k) f e gd R.s.H R.s.L R.s.M ∧ Keep A w w' := by
  subst hR
  refine (fdrain_w h x hs).mono ?_
  rintro r w' ⟨rfl, hf, hk⟩
  refine ⟨.slice none 0 0, .slice none 0 0, rfl, World.ownsRow_nil _ _ _ _, World.ownsRow_nil _ _ _ _, FIn.fewer hf ?_ (.inl (.inl h.a0)), hk⟩
  rintro k ((hk | hk) | hk)
  · exact hk
  · cases hk
  · cases hk

theorem sc_2 (h : FA w A f e gd s) (hF : Few s) (hs : x.size ≤ maxLen) (_hl : StrsAt w ma ml mc l) (_hls : ∀ y ∈ l, y.size ≤ maxLen) (_hA : 0 < ml → ∀ z, ma = some z → A z.block) (R : Res) (hR : stp e gd 2 n x l s = R) :
    Calls Tryd.prog 32 #[.pointer (some ⟨f, 0, none⟩), .string x] w fun r w' => ∃ va vb, r = .returned (.int .i64 R.E) ∧ w'.ownsRow w.heap.size 9 1 va R.P.length (sc R.P) ∧ w'.ownsRow w.heap.size 9 1 vb R.Q.length (sc R.Q) ∧ FIn w' (fun k => (A k ∨ vb.ownBlock = some k) ∨ va.ownBlock = some k) f e gd R.s.H R.s.L R.s.M ∧ Keep A w w' := by
  subst hR
  refine (fundrain_w h hF.inv x hs).mono ?_
  rintro r w' ⟨rfl, hf, hk⟩
  refine ⟨.slice none 0 0, .slice none 0 0, rfl, World.ownsRow_nil _ _ _ _, World.ownsRow_nil _ _ _ _, FIn.fewer hf ?_ (.inl (.inl h.a0)), hk⟩
  rintro k ((hk | hk) | hk)
  · exact hk
  · cases hk
  · cases hk

theorem sc_3 (h : FA w A f e gd s) (hF : Few s) (hs : x.size ≤ maxLen) (_hl : StrsAt w ma ml mc l) (_hls : ∀ y ∈ l, y.size ≤ maxLen) (_hA : 0 < ml → ∀ z, ma = some z → A z.block) (R : Res) (hR : stp e gd 3 n x l s = R) :
    Calls Tryd.prog 31 #[.pointer (some ⟨f, 0, none⟩), .string x, .int .i64 n] w fun r w' => ∃ va vb, r = .returned (.int .i64 R.E) ∧ w'.ownsRow w.heap.size 9 1 va R.P.length (sc R.P) ∧ w'.ownsRow w.heap.size 9 1 vb R.Q.length (sc R.Q) ∧ FIn w' (fun k => (A k ∨ vb.ownBlock = some k) ∨ va.ownBlock = some k) f e gd R.s.H R.s.L R.s.M ∧ Keep A w w' := by
  have hfm := hF.ml
  subst hR
  refine (fforce_w h hF.inv x n hs (by omega)).mono ?_
  rintro r w' ⟨rfl, hf, hk⟩
  refine ⟨.slice none 0 0, .slice none 0 0, rfl, World.ownsRow_nil _ _ _ _, World.ownsRow_nil _ _ _ _, FIn.fewer hf ?_ (.inl (.inl h.a0)), hk⟩
  rintro k ((hk | hk) | hk)
  · exact hk
  · cases hk
  · cases hk

theorem sc_4 (h : FA w A f e gd s) (hF : Few s) (hs : x.size ≤ maxLen) (_hl : StrsAt w ma ml mc l) (_hls : ∀ y ∈ l, y.size ≤ maxLen) (_hA : 0 < ml → ∀ z, ma = some z → A z.block) (R : Res) (hR : stp e gd 4 n x l s = R) :
    Calls Tryd.prog 33 #[.pointer (some ⟨f, 0, none⟩), .string x] w fun r w' => ∃ va vb, r = .returned (.int .i64 R.E) ∧ w'.ownsRow w.heap.size 9 1 va R.P.length (sc R.P) ∧ w'.ownsRow w.heap.size 9 1 vb R.Q.length (sc R.Q) ∧ FIn w' (fun k => (A k ∨ vb.ownBlock = some k) ∨ va.ownBlock = some k) f e gd R.s.H R.s.L R.s.M ∧ Keep A w w' := by
  have hfl := hF.hl
  subst hR
  refine (feject_w h x hs (by omega)).mono ?_
  rintro r w' ⟨rfl, hf, hk⟩
  refine ⟨.slice none 0 0, .slice none 0 0, rfl, World.ownsRow_nil _ _ _ _, World.ownsRow_nil _ _ _ _, FIn.fewer hf ?_ (.inl (.inl h.a0)), hk⟩
  rintro k ((hk | hk) | hk)
  · exact hk
  · cases hk
  · cases hk

theorem sc_5 (h : FA w A f e gd s) (hF : Few s) (_hs : x.size ≤ maxLen) (_hl : StrsAt w ma ml mc l) (_hls : ∀ y ∈ l, y.size ≤ maxLen) (_hA : 0 < ml → ∀ z, ma = some z → A z.block) (R : Res) (hR : stp e gd 5 n x l s = R) :
    Calls Tryd.prog 22 #[.pointer (some ⟨f, 0, none⟩), .int .i64 n] w fun r w' => ∃ va vb, r = .returned (va) ∧ w'.ownsRow w.heap.size 9 1 va R.P.length (sc R.P) ∧ w'.ownsRow w.heap.size 9 1 vb R.Q.length (sc R.Q) ∧ FIn w' (fun k => (A k ∨ vb.ownBlock = some k) ∨ va.ownBlock = some k) f e gd R.s.H R.s.L R.s.M ∧ Keep A w w' := by
  have hfl := hF.hl
  have hfm := hF.ml
  subst hR
  refine (fadmit_w h hF.inv n (by omega) (by have := hF.inv.few; omega) hF.lg (adS e gd n s) (adN e gd n s) rfl).mono ?_
  rintro r w' ⟨v, rfl, o, hf, hk⟩
  refine ⟨v, .slice none 0 0, rfl, o, World.ownsRow_nil _ _ _ _, hf.fewer ?_ (.inl (.inl h.a0)), hk⟩
  rintro k ((hk | hk) | hk)
  · exact .inl hk
  · cases hk
  · exact .inr hk

theorem sc_6 (h : FA w A f e gd s) (_hF : Few s) (_hs : x.size ≤ maxLen) (_hl : StrsAt w ma ml mc l) (_hls : ∀ y ∈ l, y.size ≤ maxLen) (_hA : 0 < ml → ∀ z, ma = some z → A z.block) (R : Res) (hR : stp e gd 6 n x l s = R) :
    Calls Tryd.prog 38 #[.pointer (some ⟨f, 0, none⟩), .string x] w fun r w' => ∃ va vb, r = .returned (.bool R.b) ∧ w'.ownsRow w.heap.size 9 1 va R.P.length (sc R.P) ∧ w'.ownsRow w.heap.size 9 1 vb R.Q.length (sc R.Q) ∧ FIn w' (fun k => (A k ∨ vb.ownBlock = some k) ∨ va.ownBlock = some k) f e gd R.s.H R.s.L R.s.M ∧ Keep A w w' := by
  subst hR
  refine (fprobe_w h x).mono ?_
  rintro r w' ⟨rfl, hf, hk⟩
  refine ⟨.slice none 0 0, .slice none 0 0, rfl, World.ownsRow_nil _ _ _ _, World.ownsRow_nil _ _ _ _, FIn.fewer hf ?_ (.inl (.inl h.a0)), hk⟩
  rintro k ((hk | hk) | hk)
  · exact hk
  · cases hk
  · cases hk

theorem sc_7 (h : FA w A f e gd s) (hF : Few s) (_hs : x.size ≤ maxLen) (_hl : StrsAt w ma ml mc l) (_hls : ∀ y ∈ l, y.size ≤ maxLen) (_hA : 0 < ml → ∀ z, ma = some z → A z.block) (R : Res) (hR : stp e gd 7 n x l s = R) :
    Calls Tryd.prog 30 #[.pointer (some ⟨f, 0, none⟩), .string x] w fun r w' => ∃ va vb, r = .returned (.bool R.b) ∧ w'.ownsRow w.heap.size 9 1 va R.P.length (sc R.P) ∧ w'.ownsRow w.heap.size 9 1 vb R.Q.length (sc R.Q) ∧ FIn w' (fun k => (A k ∨ vb.ownBlock = some k) ∨ va.ownBlock = some k) f e gd R.s.H R.s.L R.s.M ∧ Keep A w w' := by
  subst hR
  refine (fempty_w h hF.inv x).mono ?_
  rintro r w' ⟨rfl, hf, hk⟩
  refine ⟨.slice none 0 0, .slice none 0 0, rfl, World.ownsRow_nil _ _ _ _, World.ownsRow_nil _ _ _ _, FIn.fewer hf ?_ (.inl (.inl h.a0)), hk⟩
  rintro k ((hk | hk) | hk)
  · exact hk
  · cases hk
  · cases hk
end

/-- The two blocks of the step's own, and the fleet beside them. -/
theorem step_pre {w : World} {A : Nat → Prop} {f : Nat} {e gd : Int} {s : Fl} (h : FA w A f e gd s) (c0 c1 c2 c3 : Value) : ∃ w1, w1 = (w.alloc (.cells #[c0, c1, c2, c3] 36)).alloc (.cells #[.bool false, .int .i64 0, .slice none 0 0, .slice none 0 0] 39) ∧
    FA w1 (fun k => A k ∨ (w.heap.size ≤ k ∧ k < w1.heap.size)) f e gd s ∧ Below w.heap.size w w1 ∧ w1.heap[w.heap.size]? = some (.cells #[c0, c1, c2, c3] 36 (0, 0)) ∧ w1.heap[w.heap.size + 1]? = some (.cells #[.bool false, .int .i64 0, .slice none 0 0, .slice none 0 0] 39 (0, 0)) ∧ w1.heap.size = w.heap.size + 2 := by
  have hb1 : Below w.heap.size w (w.alloc (.cells #[c0, c1, c2, c3] 36)) := (Below.refl _ w).alloc (Nat.le_refl _) _
  have hb2 : Below (w.alloc (.cells #[c0, c1, c2, c3] 36)).heap.size (w.alloc (.cells #[c0, c1, c2, c3] 36)) ((w.alloc (.cells #[c0, c1, c2, c3] 36)).alloc (.cells #[.bool false, .int .i64 0, .slice none 0 0, .slice none 0 0] 39)) := (Below.refl _ _).alloc (Nat.le_refl _) _
  have hb := hb1.trans (hb2.mono hb1.size)
  refine ⟨_, rfl, h.belowN hb, hb, ?_, ?_, by simp⟩
  · rw [hb2.block w.heap.size (by simp)]
    exact heap_alloc_new w _
  · have := heap_alloc_new (w.alloc (.cells #[c0, c1, c2, c3] 36)) (.cells #[.bool false, .int .i64 0, .slice none 0 0, .slice none 0 0] 39)
    simpa using this
/-- The step's result is put where it is told. -/
theorem step_end {w w2 w3 : World} {A : Nat → Prop} {f : Nat} {e gd : Int} {R : Res} {va vb : Value} {q4 : Nat} (h0 : ∀ k, A k → k < w.heap.size) (a0 : A 0) (hq : q4 = w.heap.size + 1) (hk2 : Keep A w w2) (hs : w.heap.size + 2 ≤ w2.heap.size)
    (o1 : w3.ownsRow w2.heap.size 9 1 va R.P.length (sc R.P)) (o2 : w3.ownsRow w2.heap.size 9 1 vb R.Q.length (sc R.Q)) (hf : FIn w3 (fun k => ((A k ∨ (w.heap.size ≤ k ∧ k < w.heap.size + 2)) ∨ vb.ownBlock = some k) ∨ va.ownBlock = some k) f e gd R.s.H R.s.L R.s.M) (hk : Keep (fun k => A k ∨ (w.heap.size ≤ k ∧ k < w.heap.size + 2)) w2 w3)
    {c0 c1 c2 c3 : Value} (hg : w3.heap[q4]? = some (.cells #[c0, c1, c2, c3] 39 (0, 0))) (u0 u1 u2 u3 : Value) :
    ∀ w4, w4 = ((((w3.setCell ⟨q4, 0, none⟩ u0).setCell ⟨q4, 1, none⟩ u1).setCell ⟨q4, 2, none⟩ u2).setCell ⟨q4, 3, none⟩ u3) →
      w4.cell? ⟨q4, 0, none⟩ = some u0 ∧ w4.cell? ⟨q4, 1, none⟩ = some u1 ∧ w4.cell? ⟨q4, 2, none⟩ = some u2 ∧ w4.cell? ⟨q4, 3, none⟩ = some u3 ∧
      w4.ownsRow w.heap.size 9 1 va R.P.length (sc R.P) ∧ w4.ownsRow w.heap.size 9 1 vb R.Q.length (sc R.Q) ∧ FIn w4 (fun k => (A k ∨ vb.ownBlock = some k) ∨ va.ownBlock = some k) f e gd R.s.H R.s.L R.s.M ∧ Keep A w w4 := by
  intro w4 e4
  obtain ⟨p1, p2⟩ := put4 hg u0 u1 u2 u3
  rw [← e4] at p1 p2
  obtain ⟨z0, z1, z2, z3, -⟩ := blk4 p1
  have hne : ∀ v : Value, (∀ k, v.ownBlock = some k → w2.heap.size ≤ k ∧ k < w3.heap.size) → ∀ k, v.ownBlock = some k → k ≠ q4 := fun v hv k hk e => by have := hv k hk; omega
  refine ⟨z0, z1, z2, z3, own_mono (owns_keep o1 p2 (hne va o1.lt)) (by omega), own_mono (owns_keep o2 p2 (hne vb o2.lt)) (by omega), ?_, (hk2.trans (hk.mono fun k _ hA => .inl hA)).trans (p2.mono fun k _ hA e => by have := h0 k hA; omega)⟩
  have hf4 := hf.keep (w' := w4) (B := fun k => ((A k ∨ (w.heap.size ≤ k ∧ k < w.heap.size + 2)) ∨ vb.ownBlock = some k) ∨ va.ownBlock = some k) (p2.mono (by
    rintro k _ (hn | rfl) e
    · exact hn (.inl (.inl (.inr (by omega))))
    · have := h0 0 a0; omega)) (fun k hk => .inl hk) (fun k hk => Nat.lt_of_lt_of_le (hf.guard k hk) p2.size) hf.a0
  exact hf4.fewer (fun k hk => hk.imp (fun hk => hk.imp .inl id) id) (.inl (.inl a0))

set_option maxHeartbeats 4000000 in
set_option maxRecDepth 100000 in
theorem step_w {w : World} {A : Nat → Prop} {f : Nat} {e gd : Int} {s : Fl} (h : FA w A f e gd s) (hF : Few s) (kd n : Int) (x : ByteArray) (ma : Option Addr) (ml mc : Nat) (l : List ByteArray) (hs : x.size ≤ maxLen) (hl : StrsAt w ma ml mc l) (hls : ∀ y ∈ l, y.size ≤ maxLen) (hA : 0 < ml → ∀ z, ma = some z → A z.block) (k : Int) (hk : kindI kd = k) (R : Res) (hR : stp e gd k n x l s = R) :
    Calls Tryd.prog 14 #[.pointer (some ⟨f, 0, none⟩), .agg #[.int .i64 kd, .int .i64 n, .string x, .slice ma ml mc]] w fun r w' => ∃ va vb, r = .returned (.agg #[.bool R.b, .int .i64 R.E, va, vb]) ∧ w'.ownsRow w.heap.size 9 1 va R.P.length (sc R.P) ∧ w'.ownsRow w.heap.size 9 1 vb R.Q.length (sc R.Q) ∧
      FIn w' (fun k => (A k ∨ vb.ownBlock = some k) ∨ va.ownBlock = some k) f e gd R.s.H R.s.L R.s.M ∧ Keep A w w' := by
  have hk8 := kindI_of kd
  rw [hk] at hk8
  have h0 := h.guard
  have a0 := h.a0
  obtain ⟨w1, hw1, hf1, hb1, hq3, hq4, hsz⟩ := step_pre h (.int .i64 kd) (.int .i64 n) (.string x) (.slice ma ml mc)
  have hkd : ∀ w', Calls Tryd.prog 19 #[.agg #[.int .i64 kd, .int .i64 n, .string x, .slice ma ml mc]] w' fun e w'' => e = .returned (.int .i64 k) ∧ Below w'.heap.size w' w'' := fun w' => by
    have := kind_step kd n (.string x) (.slice ma ml mc) w'
    rwa [hk] at this
  have HKD := Hid.mk' hkd
  have hsz2 : w.heap.size + 1 < w1.heap.size := by omega
  have hlt1 : w.heap.size < w1.heap.size := by omega
  have HB2 : Hid (∀ w2, Below w1.heap.size w1 w2 → FA w2 (fun k => A k ∨ (w.heap.size ≤ k ∧ k < w.heap.size + 2)) f e gd s ∧ Keep A w w2 ∧ w.heap.size + 2 ≤ w2.heap.size ∧ w2.heap[w.heap.size]? = some (.cells #[.int .i64 kd, .int .i64 n, .string x, .slice ma ml mc] 36 (0, 0)) ∧ w2.heap[w.heap.size + 1]? = some (.cells #[.bool false, .int .i64 0, .slice none 0 0, .slice none 0 0] 39 (0, 0)) ∧ StrsAt w2 ma ml mc l) := fun w2 hb2 => by
    have hb := hb1.trans (hb2.mono hb1.size)
    refine ⟨by rw [hsz] at hf1; exact hf1.below hb2, keep_below hb, by rw [← hsz]; exact hb2.size, (hb2.block _ (by omega)).trans hq3, (hb2.block _ hsz2).trans hq4, hl.below (Nat.le_refl _) hb⟩
  obtain ⟨x0, x1, x2, x3, -⟩ := blk4 hq3
  obtain ⟨y0, y1, y2, y3, -⟩ := blk4 hq4
  have HF := Hid.mk' hF
  have HA1 : Hid (0 < ml → ∀ z, ma = some z → (A z.block ∨ (w.heap.size ≤ z.block ∧ z.block < w.heap.size + 2))) := fun h0 z hz => .inl (hA h0 z hz)
  have H0 := Hid.mk' h0
  have A0 := Hid.mk' a0
  clear h hl hA hf1 hq3 hq4 hkd hb1 hF h0 a0
  rcases hk8 with rfl | rfl | rfl | rfl | rfl | rfl | rfl | rfl
  · have hRb : R.b = false := by rw [← hR]; rfl
    have hRE : True := trivial
    have HC : Hid (∀ w2, Below w1.heap.size w1 w2 → Calls Tryd.prog 21 #[.pointer (some ⟨f, 0, none⟩), .slice ma ml mc, .int .i64 n] w2 fun r w3 => ∃ va vb, r = .returned (.tuple #[va, vb, .int .i64 R.E]) ∧ (∃ a n c, va = .slice a n c) ∧ (∃ a n c, vb = .slice a n c) ∧ w3.heap[w.heap.size + 1]? = some (.cells #[.bool false, .int .i64 0, .slice none 0 0, .slice none 0 0] 39 (0, 0)) ∧
        ∀ w4, w4 = ((((w3.setCell ⟨w.heap.size + 1, 0, none⟩ (.bool R.b)).setCell ⟨w.heap.size + 1, 1, none⟩ (.int .i64 R.E)).setCell ⟨w.heap.size + 1, 2, none⟩ va).setCell ⟨w.heap.size + 1, 3, none⟩ vb) →
          w4.cell? ⟨w.heap.size + 1, 0, none⟩ = some (.bool R.b) ∧ w4.cell? ⟨w.heap.size + 1, 1, none⟩ = some (.int .i64 R.E) ∧ w4.cell? ⟨w.heap.size + 1, 2, none⟩ = some va ∧ w4.cell? ⟨w.heap.size + 1, 3, none⟩ = some vb ∧ w4.ownsRow w.heap.size 9 1 va R.P.length (sc R.P) ∧ w4.ownsRow w.heap.size 9 1 vb R.Q.length (sc R.Q) ∧ FIn w4 (fun k => (A k ∨ vb.ownBlock = some k) ∨ va.ownBlock = some k) f e gd R.s.H R.s.L R.s.M ∧ Keep A w w4) := fun w2 hb2 => by
      obtain ⟨hf2, hk2, hs2, hg3, hg4, hl2⟩ := HB2.out w2 hb2
      refine (sc_0 (x := x) (l := l) (ma := ma) (ml := ml) (mc := mc) hf2 HF.out hs hl2 hls HA1.out R hR).mono ?_
      rintro r w3 ⟨va, vb, rfl, o1, o2, hf3, hk3⟩
      have hg := (hk3.block (w.heap.size + 1) (by omega) (.inr (by omega))).trans hg4
      exact ⟨va, vb, rfl, own_form o1, own_form o2, hg, step_end H0.out A0.out rfl hk2 hs2 o1 o2 hf3 hk3 hg _ _ _ _⟩
    rw [hRb] at HC ⊢
    have hkd := HKD.out w1
    clear hR hs hls HF HA1 H0 A0 HB2
    go_enter Tryd.func14, Tryd.ntmps14
    go_upto_region 1 with fail
    rw [← hw1]
    clear hw1
    go_wp2_with (first
      | (go_at_call 19; refine hkd.mono ?_; rintro r w2 ⟨rfl, hb2⟩; have hc := HC.out w2 hb2; have b1 := (hb2.cell (p := ⟨w.heap.size, 1, none⟩) hlt1).trans x1; have b3 := (hb2.cell (p := ⟨w.heap.size, 3, none⟩) hlt1).trans x3)
      | (go_at_call 21; refine hc.mono ?_; rintro r w3 ⟨va, vb, rfl, ⟨a7, n7, c7, rfl⟩, ⟨a8, n8, c8, rfl⟩, hg, hend⟩; obtain ⟨g0, g1, g2, g3, -⟩ := blk4 hg; have gf0 := fz4 hg 0; have gf1 := fz4 hg 1; have gf2 := fz4 hg 2; have gf3 := fz4 hg 3))
    obtain ⟨z0, z1, z2, z3, ho1, ho2, hf4, hk4⟩ := hend _ rfl
    refine bodyPost_ret (v := .agg #[.bool false, .int .i64 R.E, (.slice a7 n7 c7), (.slice a8 n8 c8)]) (by simp [results, Tryd.results14, go_sem, z0, z1, z2, z3]) rfl ?_
    exact ⟨_, _, rfl, ho1, ho2, hf4, hk4⟩
  · have hRb : R.b = false := by rw [← hR]; rfl
    have hRE : True := trivial
    have HC : Hid (∀ w2, Below w1.heap.size w1 w2 → Calls Tryd.prog 23 #[.pointer (some ⟨f, 0, none⟩), .string x] w2 fun r w3 => ∃ va vb, r = .returned (.int .i64 R.E) ∧ va = .slice none 0 0 ∧ vb = .slice none 0 0 ∧ w3.heap[w.heap.size + 1]? = some (.cells #[.bool false, .int .i64 0, .slice none 0 0, .slice none 0 0] 39 (0, 0)) ∧
        ∀ w4, w4 = ((((w3.setCell ⟨w.heap.size + 1, 0, none⟩ (.bool R.b)).setCell ⟨w.heap.size + 1, 1, none⟩ (.int .i64 R.E)).setCell ⟨w.heap.size + 1, 2, none⟩ va).setCell ⟨w.heap.size + 1, 3, none⟩ vb) →
          w4.cell? ⟨w.heap.size + 1, 0, none⟩ = some (.bool R.b) ∧ w4.cell? ⟨w.heap.size + 1, 1, none⟩ = some (.int .i64 R.E) ∧ w4.cell? ⟨w.heap.size + 1, 2, none⟩ = some va ∧ w4.cell? ⟨w.heap.size + 1, 3, none⟩ = some vb ∧ w4.ownsRow w.heap.size 9 1 va R.P.length (sc R.P) ∧ w4.ownsRow w.heap.size 9 1 vb R.Q.length (sc R.Q) ∧ FIn w4 (fun k => (A k ∨ vb.ownBlock = some k) ∨ va.ownBlock = some k) f e gd R.s.H R.s.L R.s.M ∧ Keep A w w4) := fun w2 hb2 => by
      obtain ⟨hf2, hk2, hs2, hg3, hg4, hl2⟩ := HB2.out w2 hb2
      refine (sc_1 (x := x) (l := l) (ma := ma) (ml := ml) (mc := mc) hf2 HF.out hs hl2 hls HA1.out R hR).mono ?_
      rintro r w3 ⟨va, vb, rfl, o1, o2, hf3, hk3⟩
      have hg := (hk3.block (w.heap.size + 1) (by omega) (.inr (by omega))).trans hg4
      have hQ : R.Q = [] := by rw [← hR]; rfl
      have hP : R.P = [] := by rw [← hR]; rfl
      have o1' : w3.ownsRow w2.heap.size 9 1 (.slice none 0 0) R.P.length (sc R.P) := by rw [hP]; exact World.ownsRow_nil _ _ _ _
      have o2' : w3.ownsRow w2.heap.size 9 1 (.slice none 0 0) R.Q.length (sc R.Q) := by rw [hQ]; exact World.ownsRow_nil _ _ _ _
      have hf3' : FIn w3 (fun k => ((A k ∨ (w.heap.size ≤ k ∧ k < w.heap.size + 2)) ∨ (Value.slice none 0 0).ownBlock = some k) ∨ (Value.slice none 0 0).ownBlock = some k) f e gd R.s.H R.s.L R.s.M := hf3.fewer (by
        rintro k ((hk | hk) | hk)
        · exact .inl (.inl hk)
        · cases hk
        · cases hk) (.inl (.inl (.inl A0.out)))
      exact ⟨_, _, rfl, rfl, rfl, hg, step_end H0.out A0.out rfl hk2 hs2 o1' o2' hf3' hk3 hg _ _ _ _⟩
    rw [hRb] at HC ⊢
    have hkd := HKD.out w1
    clear hR hs hls HF HA1 H0 A0 HB2
    go_enter Tryd.func14, Tryd.ntmps14
    go_upto_region 1 with fail
    rw [← hw1]
    clear hw1
    go_wp2_with (first
      | (go_at_call 19; refine hkd.mono ?_; rintro r w2 ⟨rfl, hb2⟩; have hc := HC.out w2 hb2; have b2 := (hb2.cell (p := ⟨w.heap.size, 2, none⟩) hlt1).trans x2)
      | (go_at_call 23; refine hc.mono ?_; rintro r w3 ⟨va, vb, rfl, rfl, rfl, hg, hend⟩; obtain ⟨g0, g1, g2, g3, -⟩ := blk4 hg; have gf0 := fz4 hg 0; have gf1 := fz4 hg 1; have gf2 := fz4 hg 2; have gf3 := fz4 hg 3))
    obtain ⟨z0, z1, z2, z3, ho1, ho2, hf4, hk4⟩ := hend _ rfl
    refine bodyPost_ret (v := .agg #[.bool false, .int .i64 R.E, .slice none 0 0, .slice none 0 0]) (by simp [results, Tryd.results14, go_sem, z0, z1, z2, z3]) rfl ?_
    exact ⟨_, _, rfl, ho1, ho2, hf4, hk4⟩
  · have hRb : R.b = false := by rw [← hR]; rfl
    have hRE : True := trivial
    have HC : Hid (∀ w2, Below w1.heap.size w1 w2 → Calls Tryd.prog 32 #[.pointer (some ⟨f, 0, none⟩), .string x] w2 fun r w3 => ∃ va vb, r = .returned (.int .i64 R.E) ∧ va = .slice none 0 0 ∧ vb = .slice none 0 0 ∧ w3.heap[w.heap.size + 1]? = some (.cells #[.bool false, .int .i64 0, .slice none 0 0, .slice none 0 0] 39 (0, 0)) ∧
        ∀ w4, w4 = ((((w3.setCell ⟨w.heap.size + 1, 0, none⟩ (.bool R.b)).setCell ⟨w.heap.size + 1, 1, none⟩ (.int .i64 R.E)).setCell ⟨w.heap.size + 1, 2, none⟩ va).setCell ⟨w.heap.size + 1, 3, none⟩ vb) →
          w4.cell? ⟨w.heap.size + 1, 0, none⟩ = some (.bool R.b) ∧ w4.cell? ⟨w.heap.size + 1, 1, none⟩ = some (.int .i64 R.E) ∧ w4.cell? ⟨w.heap.size + 1, 2, none⟩ = some va ∧ w4.cell? ⟨w.heap.size + 1, 3, none⟩ = some vb ∧ w4.ownsRow w.heap.size 9 1 va R.P.length (sc R.P) ∧ w4.ownsRow w.heap.size 9 1 vb R.Q.length (sc R.Q) ∧ FIn w4 (fun k => (A k ∨ vb.ownBlock = some k) ∨ va.ownBlock = some k) f e gd R.s.H R.s.L R.s.M ∧ Keep A w w4) := fun w2 hb2 => by
      obtain ⟨hf2, hk2, hs2, hg3, hg4, hl2⟩ := HB2.out w2 hb2
      refine (sc_2 (x := x) (l := l) (ma := ma) (ml := ml) (mc := mc) hf2 HF.out hs hl2 hls HA1.out R hR).mono ?_
      rintro r w3 ⟨va, vb, rfl, o1, o2, hf3, hk3⟩
      have hg := (hk3.block (w.heap.size + 1) (by omega) (.inr (by omega))).trans hg4
      have hQ : R.Q = [] := by rw [← hR]; rfl
      have hP : R.P = [] := by rw [← hR]; rfl
      have o1' : w3.ownsRow w2.heap.size 9 1 (.slice none 0 0) R.P.length (sc R.P) := by rw [hP]; exact World.ownsRow_nil _ _ _ _
      have o2' : w3.ownsRow w2.heap.size 9 1 (.slice none 0 0) R.Q.length (sc R.Q) := by rw [hQ]; exact World.ownsRow_nil _ _ _ _
      have hf3' : FIn w3 (fun k => ((A k ∨ (w.heap.size ≤ k ∧ k < w.heap.size + 2)) ∨ (Value.slice none 0 0).ownBlock = some k) ∨ (Value.slice none 0 0).ownBlock = some k) f e gd R.s.H R.s.L R.s.M := hf3.fewer (by
        rintro k ((hk | hk) | hk)
        · exact .inl (.inl hk)
        · cases hk
        · cases hk) (.inl (.inl (.inl A0.out)))
      exact ⟨_, _, rfl, rfl, rfl, hg, step_end H0.out A0.out rfl hk2 hs2 o1' o2' hf3' hk3 hg _ _ _ _⟩
    rw [hRb] at HC ⊢
    have hkd := HKD.out w1
    clear hR hs hls HF HA1 H0 A0 HB2
    go_enter Tryd.func14, Tryd.ntmps14
    go_upto_region 1 with fail
    rw [← hw1]
    clear hw1
    go_wp2_with (first
      | (go_at_call 19; refine hkd.mono ?_; rintro r w2 ⟨rfl, hb2⟩; have hc := HC.out w2 hb2; have b2 := (hb2.cell (p := ⟨w.heap.size, 2, none⟩) hlt1).trans x2)
      | (go_at_call 32; refine hc.mono ?_; rintro r w3 ⟨va, vb, rfl, rfl, rfl, hg, hend⟩; obtain ⟨g0, g1, g2, g3, -⟩ := blk4 hg; have gf0 := fz4 hg 0; have gf1 := fz4 hg 1; have gf2 := fz4 hg 2; have gf3 := fz4 hg 3))
    obtain ⟨z0, z1, z2, z3, ho1, ho2, hf4, hk4⟩ := hend _ rfl
    refine bodyPost_ret (v := .agg #[.bool false, .int .i64 R.E, .slice none 0 0, .slice none 0 0]) (by simp [results, Tryd.results14, go_sem, z0, z1, z2, z3]) rfl ?_
    exact ⟨_, _, rfl, ho1, ho2, hf4, hk4⟩
  · have hRb : R.b = false := by rw [← hR]; rfl
    have hRE : True := trivial
    have HC : Hid (∀ w2, Below w1.heap.size w1 w2 → Calls Tryd.prog 31 #[.pointer (some ⟨f, 0, none⟩), .string x, .int .i64 n] w2 fun r w3 => ∃ va vb, r = .returned (.int .i64 R.E) ∧ va = .slice none 0 0 ∧ vb = .slice none 0 0 ∧ w3.heap[w.heap.size + 1]? = some (.cells #[.bool false, .int .i64 0, .slice none 0 0, .slice none 0 0] 39 (0, 0)) ∧
        ∀ w4, w4 = ((((w3.setCell ⟨w.heap.size + 1, 0, none⟩ (.bool R.b)).setCell ⟨w.heap.size + 1, 1, none⟩ (.int .i64 R.E)).setCell ⟨w.heap.size + 1, 2, none⟩ va).setCell ⟨w.heap.size + 1, 3, none⟩ vb) →
          w4.cell? ⟨w.heap.size + 1, 0, none⟩ = some (.bool R.b) ∧ w4.cell? ⟨w.heap.size + 1, 1, none⟩ = some (.int .i64 R.E) ∧ w4.cell? ⟨w.heap.size + 1, 2, none⟩ = some va ∧ w4.cell? ⟨w.heap.size + 1, 3, none⟩ = some vb ∧ w4.ownsRow w.heap.size 9 1 va R.P.length (sc R.P) ∧ w4.ownsRow w.heap.size 9 1 vb R.Q.length (sc R.Q) ∧ FIn w4 (fun k => (A k ∨ vb.ownBlock = some k) ∨ va.ownBlock = some k) f e gd R.s.H R.s.L R.s.M ∧ Keep A w w4) := fun w2 hb2 => by
      obtain ⟨hf2, hk2, hs2, hg3, hg4, hl2⟩ := HB2.out w2 hb2
      refine (sc_3 (x := x) (l := l) (ma := ma) (ml := ml) (mc := mc) hf2 HF.out hs hl2 hls HA1.out R hR).mono ?_
      rintro r w3 ⟨va, vb, rfl, o1, o2, hf3, hk3⟩
      have hg := (hk3.block (w.heap.size + 1) (by omega) (.inr (by omega))).trans hg4
      have hQ : R.Q = [] := by rw [← hR]; rfl
      have hP : R.P = [] := by rw [← hR]; rfl
      have o1' : w3.ownsRow w2.heap.size 9 1 (.slice none 0 0) R.P.length (sc R.P) := by rw [hP]; exact World.ownsRow_nil _ _ _ _
      have o2' : w3.ownsRow w2.heap.size 9 1 (.slice none 0 0) R.Q.length (sc R.Q) := by rw [hQ]; exact World.ownsRow_nil _ _ _ _
      have hf3' : FIn w3 (fun k => ((A k ∨ (w.heap.size ≤ k ∧ k < w.heap.size + 2)) ∨ (Value.slice none 0 0).ownBlock = some k) ∨ (Value.slice none 0 0).ownBlock = some k) f e gd R.s.H R.s.L R.s.M := hf3.fewer (by
        rintro k ((hk | hk) | hk)
        · exact .inl (.inl hk)
        · cases hk
        · cases hk) (.inl (.inl (.inl A0.out)))
      exact ⟨_, _, rfl, rfl, rfl, hg, step_end H0.out A0.out rfl hk2 hs2 o1' o2' hf3' hk3 hg _ _ _ _⟩
    rw [hRb] at HC ⊢
    have hkd := HKD.out w1
    clear hR hs hls HF HA1 H0 A0 HB2
    go_enter Tryd.func14, Tryd.ntmps14
    go_upto_region 1 with fail
    rw [← hw1]
    clear hw1
    go_wp2_with (first
      | (go_at_call 19; refine hkd.mono ?_; rintro r w2 ⟨rfl, hb2⟩; have hc := HC.out w2 hb2; have b1 := (hb2.cell (p := ⟨w.heap.size, 1, none⟩) hlt1).trans x1; have b2 := (hb2.cell (p := ⟨w.heap.size, 2, none⟩) hlt1).trans x2)
      | (go_at_call 31; refine hc.mono ?_; rintro r w3 ⟨va, vb, rfl, rfl, rfl, hg, hend⟩; obtain ⟨g0, g1, g2, g3, -⟩ := blk4 hg; have gf0 := fz4 hg 0; have gf1 := fz4 hg 1; have gf2 := fz4 hg 2; have gf3 := fz4 hg 3))
    obtain ⟨z0, z1, z2, z3, ho1, ho2, hf4, hk4⟩ := hend _ rfl
    refine bodyPost_ret (v := .agg #[.bool false, .int .i64 R.E, .slice none 0 0, .slice none 0 0]) (by simp [results, Tryd.results14, go_sem, z0, z1, z2, z3]) rfl ?_
    exact ⟨_, _, rfl, ho1, ho2, hf4, hk4⟩
  · have hRb : R.b = false := by rw [← hR]; rfl
    have hRE : True := trivial
    have HC : Hid (∀ w2, Below w1.heap.size w1 w2 → Calls Tryd.prog 33 #[.pointer (some ⟨f, 0, none⟩), .string x] w2 fun r w3 => ∃ va vb, r = .returned (.int .i64 R.E) ∧ va = .slice none 0 0 ∧ vb = .slice none 0 0 ∧ w3.heap[w.heap.size + 1]? = some (.cells #[.bool false, .int .i64 0, .slice none 0 0, .slice none 0 0] 39 (0, 0)) ∧
        ∀ w4, w4 = ((((w3.setCell ⟨w.heap.size + 1, 0, none⟩ (.bool R.b)).setCell ⟨w.heap.size + 1, 1, none⟩ (.int .i64 R.E)).setCell ⟨w.heap.size + 1, 2, none⟩ va).setCell ⟨w.heap.size + 1, 3, none⟩ vb) →
          w4.cell? ⟨w.heap.size + 1, 0, none⟩ = some (.bool R.b) ∧ w4.cell? ⟨w.heap.size + 1, 1, none⟩ = some (.int .i64 R.E) ∧ w4.cell? ⟨w.heap.size + 1, 2, none⟩ = some va ∧ w4.cell? ⟨w.heap.size + 1, 3, none⟩ = some vb ∧ w4.ownsRow w.heap.size 9 1 va R.P.length (sc R.P) ∧ w4.ownsRow w.heap.size 9 1 vb R.Q.length (sc R.Q) ∧ FIn w4 (fun k => (A k ∨ vb.ownBlock = some k) ∨ va.ownBlock = some k) f e gd R.s.H R.s.L R.s.M ∧ Keep A w w4) := fun w2 hb2 => by
      obtain ⟨hf2, hk2, hs2, hg3, hg4, hl2⟩ := HB2.out w2 hb2
      refine (sc_4 (x := x) (l := l) (ma := ma) (ml := ml) (mc := mc) hf2 HF.out hs hl2 hls HA1.out R hR).mono ?_
      rintro r w3 ⟨va, vb, rfl, o1, o2, hf3, hk3⟩
      have hg := (hk3.block (w.heap.size + 1) (by omega) (.inr (by omega))).trans hg4
      have hQ : R.Q = [] := by rw [← hR]; rfl
      have hP : R.P = [] := by rw [← hR]; rfl
      have o1' : w3.ownsRow w2.heap.size 9 1 (.slice none 0 0) R.P.length (sc R.P) := by rw [hP]; exact World.ownsRow_nil _ _ _ _
      have o2' : w3.ownsRow w2.heap.size 9 1 (.slice none 0 0) R.Q.length (sc R.Q) := by rw [hQ]; exact World.ownsRow_nil _ _ _ _
      have hf3' : FIn w3 (fun k => ((A k ∨ (w.heap.size ≤ k ∧ k < w.heap.size + 2)) ∨ (Value.slice none 0 0).ownBlock = some k) ∨ (Value.slice none 0 0).ownBlock = some k) f e gd R.s.H R.s.L R.s.M := hf3.fewer (by
        rintro k ((hk | hk) | hk)
        · exact .inl (.inl hk)
        · cases hk
        · cases hk) (.inl (.inl (.inl A0.out)))
      exact ⟨_, _, rfl, rfl, rfl, hg, step_end H0.out A0.out rfl hk2 hs2 o1' o2' hf3' hk3 hg _ _ _ _⟩
    rw [hRb] at HC ⊢
    have hkd := HKD.out w1
    clear hR hs hls HF HA1 H0 A0 HB2
    go_enter Tryd.func14, Tryd.ntmps14
    go_upto_region 1 with fail
    rw [← hw1]
    clear hw1
    go_wp2_with (first
      | (go_at_call 19; refine hkd.mono ?_; rintro r w2 ⟨rfl, hb2⟩; have hc := HC.out w2 hb2; have b2 := (hb2.cell (p := ⟨w.heap.size, 2, none⟩) hlt1).trans x2)
      | (go_at_call 33; refine hc.mono ?_; rintro r w3 ⟨va, vb, rfl, rfl, rfl, hg, hend⟩; obtain ⟨g0, g1, g2, g3, -⟩ := blk4 hg; have gf0 := fz4 hg 0; have gf1 := fz4 hg 1; have gf2 := fz4 hg 2; have gf3 := fz4 hg 3))
    obtain ⟨z0, z1, z2, z3, ho1, ho2, hf4, hk4⟩ := hend _ rfl
    refine bodyPost_ret (v := .agg #[.bool false, .int .i64 R.E, .slice none 0 0, .slice none 0 0]) (by simp [results, Tryd.results14, go_sem, z0, z1, z2, z3]) rfl ?_
    exact ⟨_, _, rfl, ho1, ho2, hf4, hk4⟩
  · have hRb : R.b = false := by rw [← hR]; rfl
    have hRE : R.E = 0 := by rw [← hR]; rfl
    have HC : Hid (∀ w2, Below w1.heap.size w1 w2 → Calls Tryd.prog 22 #[.pointer (some ⟨f, 0, none⟩), .int .i64 n] w2 fun r w3 => ∃ va vb, r = .returned (va) ∧ (∃ a n c, va = .slice a n c) ∧ vb = .slice none 0 0 ∧ w3.heap[w.heap.size + 1]? = some (.cells #[.bool false, .int .i64 0, .slice none 0 0, .slice none 0 0] 39 (0, 0)) ∧
        ∀ w4, w4 = ((((w3.setCell ⟨w.heap.size + 1, 0, none⟩ (.bool R.b)).setCell ⟨w.heap.size + 1, 1, none⟩ (.int .i64 R.E)).setCell ⟨w.heap.size + 1, 2, none⟩ va).setCell ⟨w.heap.size + 1, 3, none⟩ vb) →
          w4.cell? ⟨w.heap.size + 1, 0, none⟩ = some (.bool R.b) ∧ w4.cell? ⟨w.heap.size + 1, 1, none⟩ = some (.int .i64 R.E) ∧ w4.cell? ⟨w.heap.size + 1, 2, none⟩ = some va ∧ w4.cell? ⟨w.heap.size + 1, 3, none⟩ = some vb ∧ w4.ownsRow w.heap.size 9 1 va R.P.length (sc R.P) ∧ w4.ownsRow w.heap.size 9 1 vb R.Q.length (sc R.Q) ∧ FIn w4 (fun k => (A k ∨ vb.ownBlock = some k) ∨ va.ownBlock = some k) f e gd R.s.H R.s.L R.s.M ∧ Keep A w w4) := fun w2 hb2 => by
      obtain ⟨hf2, hk2, hs2, hg3, hg4, hl2⟩ := HB2.out w2 hb2
      refine (sc_5 (x := x) (l := l) (ma := ma) (ml := ml) (mc := mc) hf2 HF.out hs hl2 hls HA1.out R hR).mono ?_
      rintro r w3 ⟨va, vb, rfl, o1, o2, hf3, hk3⟩
      have hg := (hk3.block (w.heap.size + 1) (by omega) (.inr (by omega))).trans hg4
      have hQ : R.Q = [] := by rw [← hR]; rfl
      have o2' : w3.ownsRow w2.heap.size 9 1 (.slice none 0 0) R.Q.length (sc R.Q) := by rw [hQ]; exact World.ownsRow_nil _ _ _ _
      have hf3' : FIn w3 (fun k => ((A k ∨ (w.heap.size ≤ k ∧ k < w.heap.size + 2)) ∨ (Value.slice none 0 0).ownBlock = some k) ∨ va.ownBlock = some k) f e gd R.s.H R.s.L R.s.M := hf3.fewer (by
        rintro k ((hk | hk) | hk)
        · exact .inl (.inl hk)
        · cases hk
        · exact .inr hk) (.inl (.inl (.inl A0.out)))
      exact ⟨va, _, rfl, own_form o1, rfl, hg, step_end H0.out A0.out rfl hk2 hs2 o1 o2' hf3' hk3 hg _ _ _ _⟩
    rw [hRb, hRE] at HC ⊢
    have hkd := HKD.out w1
    clear hR hs hls HF HA1 H0 A0 HB2
    go_enter Tryd.func14, Tryd.ntmps14
    go_upto_region 1 with fail
    rw [← hw1]
    clear hw1
    go_wp2_with (first
      | (go_at_call 19; refine hkd.mono ?_; rintro r w2 ⟨rfl, hb2⟩; have hc := HC.out w2 hb2; have b1 := (hb2.cell (p := ⟨w.heap.size, 1, none⟩) hlt1).trans x1)
      | (go_at_call 22; refine hc.mono ?_; rintro r w3 ⟨va, vb, rfl, ⟨a7, n7, c7, rfl⟩, rfl, hg, hend⟩; obtain ⟨g0, g1, g2, g3, -⟩ := blk4 hg; have gf0 := fz4 hg 0; have gf1 := fz4 hg 1; have gf2 := fz4 hg 2; have gf3 := fz4 hg 3))
    obtain ⟨z0, z1, z2, z3, ho1, ho2, hf4, hk4⟩ := hend _ rfl
    refine bodyPost_ret (v := .agg #[.bool false, .int .i64 0, (.slice a7 n7 c7), .slice none 0 0]) (by simp [results, Tryd.results14, go_sem, z0, z1, z2, z3]) rfl ?_
    exact ⟨_, _, rfl, ho1, ho2, hf4, hk4⟩
  · have hRb : True := trivial
    have hRE : R.E = 0 := by rw [← hR]; rfl
    have HC : Hid (∀ w2, Below w1.heap.size w1 w2 → Calls Tryd.prog 38 #[.pointer (some ⟨f, 0, none⟩), .string x] w2 fun r w3 => ∃ va vb, r = .returned (.bool R.b) ∧ va = .slice none 0 0 ∧ vb = .slice none 0 0 ∧ w3.heap[w.heap.size + 1]? = some (.cells #[.bool false, .int .i64 0, .slice none 0 0, .slice none 0 0] 39 (0, 0)) ∧
        ∀ w4, w4 = ((((w3.setCell ⟨w.heap.size + 1, 0, none⟩ (.bool R.b)).setCell ⟨w.heap.size + 1, 1, none⟩ (.int .i64 R.E)).setCell ⟨w.heap.size + 1, 2, none⟩ va).setCell ⟨w.heap.size + 1, 3, none⟩ vb) →
          w4.cell? ⟨w.heap.size + 1, 0, none⟩ = some (.bool R.b) ∧ w4.cell? ⟨w.heap.size + 1, 1, none⟩ = some (.int .i64 R.E) ∧ w4.cell? ⟨w.heap.size + 1, 2, none⟩ = some va ∧ w4.cell? ⟨w.heap.size + 1, 3, none⟩ = some vb ∧ w4.ownsRow w.heap.size 9 1 va R.P.length (sc R.P) ∧ w4.ownsRow w.heap.size 9 1 vb R.Q.length (sc R.Q) ∧ FIn w4 (fun k => (A k ∨ vb.ownBlock = some k) ∨ va.ownBlock = some k) f e gd R.s.H R.s.L R.s.M ∧ Keep A w w4) := fun w2 hb2 => by
      obtain ⟨hf2, hk2, hs2, hg3, hg4, hl2⟩ := HB2.out w2 hb2
      refine (sc_6 (x := x) (l := l) (ma := ma) (ml := ml) (mc := mc) hf2 HF.out hs hl2 hls HA1.out R hR).mono ?_
      rintro r w3 ⟨va, vb, rfl, o1, o2, hf3, hk3⟩
      have hg := (hk3.block (w.heap.size + 1) (by omega) (.inr (by omega))).trans hg4
      have hQ : R.Q = [] := by rw [← hR]; rfl
      have hP : R.P = [] := by rw [← hR]; rfl
      have o1' : w3.ownsRow w2.heap.size 9 1 (.slice none 0 0) R.P.length (sc R.P) := by rw [hP]; exact World.ownsRow_nil _ _ _ _
      have o2' : w3.ownsRow w2.heap.size 9 1 (.slice none 0 0) R.Q.length (sc R.Q) := by rw [hQ]; exact World.ownsRow_nil _ _ _ _
      have hf3' : FIn w3 (fun k => ((A k ∨ (w.heap.size ≤ k ∧ k < w.heap.size + 2)) ∨ (Value.slice none 0 0).ownBlock = some k) ∨ (Value.slice none 0 0).ownBlock = some k) f e gd R.s.H R.s.L R.s.M := hf3.fewer (by
        rintro k ((hk | hk) | hk)
        · exact .inl (.inl hk)
        · cases hk
        · cases hk) (.inl (.inl (.inl A0.out)))
      exact ⟨_, _, rfl, rfl, rfl, hg, step_end H0.out A0.out rfl hk2 hs2 o1' o2' hf3' hk3 hg _ _ _ _⟩
    rw [hRE] at HC ⊢
    have hkd := HKD.out w1
    clear hR hs hls HF HA1 H0 A0 HB2
    go_enter Tryd.func14, Tryd.ntmps14
    go_upto_region 1 with fail
    rw [← hw1]
    clear hw1
    go_wp2_with (first
      | (go_at_call 19; refine hkd.mono ?_; rintro r w2 ⟨rfl, hb2⟩; have hc := HC.out w2 hb2; have b2 := (hb2.cell (p := ⟨w.heap.size, 2, none⟩) hlt1).trans x2)
      | (go_at_call 38; refine hc.mono ?_; rintro r w3 ⟨va, vb, rfl, rfl, rfl, hg, hend⟩; obtain ⟨g0, g1, g2, g3, -⟩ := blk4 hg; have gf0 := fz4 hg 0; have gf1 := fz4 hg 1; have gf2 := fz4 hg 2; have gf3 := fz4 hg 3))
    obtain ⟨z0, z1, z2, z3, ho1, ho2, hf4, hk4⟩ := hend _ rfl
    refine bodyPost_ret (v := .agg #[.bool R.b, .int .i64 0, .slice none 0 0, .slice none 0 0]) (by simp [results, Tryd.results14, go_sem, z0, z1, z2, z3]) rfl ?_
    exact ⟨_, _, rfl, ho1, ho2, hf4, hk4⟩
  · have hRb : True := trivial
    have hRE : R.E = 0 := by rw [← hR]; rfl
    have HC : Hid (∀ w2, Below w1.heap.size w1 w2 → Calls Tryd.prog 30 #[.pointer (some ⟨f, 0, none⟩), .string x] w2 fun r w3 => ∃ va vb, r = .returned (.bool R.b) ∧ va = .slice none 0 0 ∧ vb = .slice none 0 0 ∧ w3.heap[w.heap.size + 1]? = some (.cells #[.bool false, .int .i64 0, .slice none 0 0, .slice none 0 0] 39 (0, 0)) ∧
        ∀ w4, w4 = ((((w3.setCell ⟨w.heap.size + 1, 0, none⟩ (.bool R.b)).setCell ⟨w.heap.size + 1, 1, none⟩ (.int .i64 R.E)).setCell ⟨w.heap.size + 1, 2, none⟩ va).setCell ⟨w.heap.size + 1, 3, none⟩ vb) →
          w4.cell? ⟨w.heap.size + 1, 0, none⟩ = some (.bool R.b) ∧ w4.cell? ⟨w.heap.size + 1, 1, none⟩ = some (.int .i64 R.E) ∧ w4.cell? ⟨w.heap.size + 1, 2, none⟩ = some va ∧ w4.cell? ⟨w.heap.size + 1, 3, none⟩ = some vb ∧ w4.ownsRow w.heap.size 9 1 va R.P.length (sc R.P) ∧ w4.ownsRow w.heap.size 9 1 vb R.Q.length (sc R.Q) ∧ FIn w4 (fun k => (A k ∨ vb.ownBlock = some k) ∨ va.ownBlock = some k) f e gd R.s.H R.s.L R.s.M ∧ Keep A w w4) := fun w2 hb2 => by
      obtain ⟨hf2, hk2, hs2, hg3, hg4, hl2⟩ := HB2.out w2 hb2
      refine (sc_7 (x := x) (l := l) (ma := ma) (ml := ml) (mc := mc) hf2 HF.out hs hl2 hls HA1.out R hR).mono ?_
      rintro r w3 ⟨va, vb, rfl, o1, o2, hf3, hk3⟩
      have hg := (hk3.block (w.heap.size + 1) (by omega) (.inr (by omega))).trans hg4
      have hQ : R.Q = [] := by rw [← hR]; rfl
      have hP : R.P = [] := by rw [← hR]; rfl
      have o1' : w3.ownsRow w2.heap.size 9 1 (.slice none 0 0) R.P.length (sc R.P) := by rw [hP]; exact World.ownsRow_nil _ _ _ _
      have o2' : w3.ownsRow w2.heap.size 9 1 (.slice none 0 0) R.Q.length (sc R.Q) := by rw [hQ]; exact World.ownsRow_nil _ _ _ _
      have hf3' : FIn w3 (fun k => ((A k ∨ (w.heap.size ≤ k ∧ k < w.heap.size + 2)) ∨ (Value.slice none 0 0).ownBlock = some k) ∨ (Value.slice none 0 0).ownBlock = some k) f e gd R.s.H R.s.L R.s.M := hf3.fewer (by
        rintro k ((hk | hk) | hk)
        · exact .inl (.inl hk)
        · cases hk
        · cases hk) (.inl (.inl (.inl A0.out)))
      exact ⟨_, _, rfl, rfl, rfl, hg, step_end H0.out A0.out rfl hk2 hs2 o1' o2' hf3' hk3 hg _ _ _ _⟩
    rw [hRE] at HC ⊢
    have hkd := HKD.out w1
    clear hR hs hls HF HA1 H0 A0 HB2
    go_enter Tryd.func14, Tryd.ntmps14
    go_upto_region 1 with fail
    rw [← hw1]
    clear hw1
    go_wp2_with (first
      | (go_at_call 19; refine hkd.mono ?_; rintro r w2 ⟨rfl, hb2⟩; have hc := HC.out w2 hb2; have b2 := (hb2.cell (p := ⟨w.heap.size, 2, none⟩) hlt1).trans x2)
      | (go_at_call 30; refine hc.mono ?_; rintro r w3 ⟨va, vb, rfl, rfl, rfl, hg, hend⟩; obtain ⟨g0, g1, g2, g3, -⟩ := blk4 hg; have gf0 := fz4 hg 0; have gf1 := fz4 hg 1; have gf2 := fz4 hg 2; have gf3 := fz4 hg 3))
    obtain ⟨z0, z1, z2, z3, ho1, ho2, hf4, hk4⟩ := hend _ rfl
    refine bodyPost_ret (v := .agg #[.bool R.b, .int .i64 0, .slice none 0 0, .slice none 0 0]) (by simp [results, Tryd.results14, go_sem, z0, z1, z2, z3]) rfl ?_
    exact ⟨_, _, rfl, ho1, ho2, hf4, hk4⟩
end Go.Proofs.YtmlkpfkeeifgeaaDoor
