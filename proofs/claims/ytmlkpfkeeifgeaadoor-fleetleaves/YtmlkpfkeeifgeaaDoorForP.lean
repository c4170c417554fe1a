/-
  The states of FleetForce, one behind the other, as plain facts. Conditions: a list of good names, and one of it.
-/
import Derived.Test.YtmlkpfkeeifgeaaDoorUndP
namespace Go.Proofs.YtmlkpfkeeifgeaaDoor

section
variable {l : List ByteArray} {x : ByteArray} {g : ByteArray → Int × Bool} {d e gd : Int}
def z0F (g : ByteArray → Int × Bool) (l : List ByteArray) : Fl := ⟨sta g l, [], []⟩
def z1F (g : ByteArray → Int × Bool) (l : List ByteArray) (x : ByteArray) (d : Int) : Fl := ⟨sta (up g x (1, false)) l, [], [(x, cut d)]⟩

theorem for_f (hn : l.Nodup) (h0 : nameB x = true) (hx : x ∈ l) (hg : g x = (0, false)) : foE x (z0F g l) = 0 ∧ foS x d (z0F g l) = z1F g l x d := by
  have h1 : foE x (z0F g l) = 0 := by
    unfold foE z0F
    rw [if_pos (errF_sta h0 hx), ofN_sta hx, hg]
    rfl
  refine ⟨h1, ?_⟩
  unfold foS
  rw [if_pos h1]
  show Fl.mk (tnH (plN x (sta g l)) 0 (sta g l)) (begL x [] []) (begM x d []) = _
  have e1 : begL x [] [] = [] := by
    unfold begL
    split <;> (try split) <;> rfl
  have e2 : begM x d [] = [(x, cut d)] := by
    unfold begM
    rw [if_neg (by rw [h0]; simp), if_neg (by rw [isIn_nil]; simp)]
    rfl
  rw [tnH_sta hn hx, hg, e1, e2]
  rfl
theorem for_s1 (hx : x ∈ l) : stF x (z1F g l x d).H = 1 ∧ isH x (z1F g l x d).H = true := ⟨by show stF x (sta _ l) = 1; rw [stF_sta hx, up_same], isH_sta.2 hx⟩
theorem for_due : dueL d (z1F g l x d).M = [x] := by
  show dueL d [(x, cut d)] = _
  unfold dueL
  have : past d (x, cut d).2 = true := by unfold past; rw [cut_cut]; simp
  simp [this, nms]
theorem for_u (hn : l.Nodup) (h0 : nameB x = true) (hx : x ∈ l) (hg : g x = (0, false)) : unE x (z1F g l x d) = 0 ∧ unS x (z1F g l x d) = z0F g l := by
  have h1 : unE x (z1F g l x d) = 0 := by
    unfold unE z1F
    rw [if_pos (errF_sta h0 hx), ofN_sta hx, up_same, isIn_nil]
    rfl
  refine ⟨h1, ?_⟩
  unfold unS
  rw [if_pos h1]
  show Fl.mk (if isIn x [] = true then _ else tnH (plN x (sta (up g x (1, false)) l)) 1 (sta (up g x (1, false)) l)) [] (wo x [(x, cut d)]) = _
  rw [isIn_nil, if_neg (by simp), tnH_sta hn hx, up_same, wo_one, up_up]
  have e1 : ((St.nx 1 1, false) : Int × Bool) = g x := by rw [hg]; rfl
  rw [e1, up_self]
  rfl
theorem for_s0 (hx : x ∈ l) (hg : g x = (0, false)) : stF x (z0F g l).H = 0 ∧ isH x (z0F g l).H = true := ⟨by show stF x (sta _ l) = 0; rw [stF_sta hx, hg], isH_sta.2 hx⟩
theorem for_u0 (h0 : nameB x = true) (hx : x ∈ l) (hg : g x = (0, false)) : unE x (z0F g l) = 8 ∧ unS x (z0F g l) = z0F g l := by
  have h1 : unE x (z0F g l) = 8 := by
    unfold unE z0F
    rw [if_pos (errF_sta h0 hx), ofN_sta hx, isIn_nil, hg]
    rfl
  refine ⟨h1, ?_⟩
  unfold unS
  rw [h1]
  rfl
theorem for_e (hn : l.Nodup) (hx : x ∈ l) : emB x (z1F g l x d) = true ∧ emS x (z1F g l x d) = z0F (up g x (3, false)) l := by
  have h1 : emB x (z1F g l x d) = true := by
    unfold emB z1F
    rw [isH_sta.2 hx, ofN_sta hx, up_same]
    rfl
  refine ⟨h1, ?_⟩
  unfold emS
  rw [if_pos h1]
  show Fl.mk (if (ofN x (sta (up g x (1, false)) l)).lv = true then _ else tnH (plN x (sta (up g x (1, false)) l)) 4 (sta (up g x (1, false)) l)) [] (wo x [(x, cut d)]) = _
  rw [ofN_sta hx, up_same, wo_one, tnH_sta hn hx, up_same, up_up]
  rfl
/-- What is told of one that is retired. -/
theorem for_r (h0 : nameB x = true) (hx : x ∈ l) (hg : (g x).1 = 3) : stF x (z0F g l).H = 3 ∧ isH x (z0F g l).H = true ∧ foE x (z0F g l) = 8 ∧ foS x d (z0F g l) = z0F g l ∧ drE x (z0F g l) = 8 ∧ drS x (z0F g l) = z0F g l ∧ ejE x e gd (z0F g l) = 8 ∧ ejS x e gd (z0F g l) = z0F g l := by
  have h1 : foE x (z0F g l) = 8 := by
    unfold foE z0F
    rw [if_pos (errF_sta h0 hx), ofN_sta hx]
    dsimp only
    rw [hg]
    rfl
  have h2 : drE x (z0F g l) = 8 := by
    unfold drE z0F
    rw [if_pos (errF_sta h0 hx), ofN_sta hx]
    dsimp only
    rw [hg]
    rfl
  have h3 : ejE x e gd (z0F g l) = 8 := by
    unfold ejE z0F
    rw [if_pos (errF_sta h0 hx), ofN_sta hx]
    dsimp only
    rw [hg]
    rfl
  refine ⟨by show stF x (sta _ l) = 3; rw [stF_sta hx, hg], isH_sta.2 hx, h1, ?_, h2, ?_, h3, ?_⟩
  · unfold foS; rw [h1]; rfl
  · unfold drS; rw [h2]; rfl
  · unfold ejS; rw [h3]; rfl
end

theorem fidx_nodup : ∀ {l : List ByteArray}, l.Nodup → ∀ i, i < l.length → fidx (l.getD i ⟨#[]⟩) l = i
  | [], _, i, h => by simp at h
  | y :: l, hn, 0, _ => by simp [fidx]
  | y :: l, hn, i + 1, h => by
    have hy : y ∉ l ∧ l.Nodup := by simpa using hn
    have hi : i < l.length := by simpa using h
    have hm := getD_mem hi
    unfold fidx
    have hne : ¬ y = (y :: l).getD (i + 1) ⟨#[]⟩ := by
      intro e
      have : (y :: l).getD (i + 1) ⟨#[]⟩ = l.getD i ⟨#[]⟩ := by simp
      rw [this] at e
      exact hy.1 (e ▸ hm)
    rw [if_neg hne]
    have : (y :: l).getD (i + 1) ⟨#[]⟩ = l.getD i ⟨#[]⟩ := by simp
    rw [this, fidx_nodup hy.2 i hi]
/-- The first k of l are retired. -/
def gr (l : List ByteArray) (k : Nat) : ByteArray → Int × Bool := fun x => if fidx x l < k then (3, false) else (0, false)
theorem gr_zero (l : List ByteArray) : gr l 0 = g0 := by
  funext x
  unfold gr g0
  rw [if_neg (by omega)]
theorem gr_at {l : List ByteArray} (hn : l.Nodup) {i : Nat} (hi : i < l.length) : gr l i (l.getD i ⟨#[]⟩) = (0, false) := by
  unfold gr
  rw [fidx_nodup hn i hi, if_neg (by omega)]
theorem gr_up {l : List ByteArray} (hn : l.Nodup) {i : Nat} (hi : i < l.length) : sta (up (gr l i) (l.getD i ⟨#[]⟩) (3, false)) l = sta (gr l (i + 1)) l := by
  apply sta_congr
  intro y hy
  unfold up gr
  have hf := (fidx_mem y l).2 hy
  by_cases h1 : y = l.getD i ⟨#[]⟩
  · rw [if_pos h1, h1, fidx_nodup hn i hi, if_pos (by omega)]
  · rw [if_neg h1]
    have h2 : fidx y l ≠ i := fun e => h1 (by rw [← e, fidx_at y l hf])
    by_cases h3 : fidx y l < i
    · rw [if_pos h3, if_pos (by omega)]
    · rw [if_neg h3, if_neg (by omega)]
theorem act_rep0 (n : Nat) : Gd.act (List.replicate n 0) = n := by
  have := act_all (List.replicate n 0) (fun x hx => (List.mem_replicate.1 hx).2)
  simpa using this
theorem act_rep3 : ∀ n, Gd.act (List.replicate n 3) = 0
  | 0 => rfl
  | n + 1 => by
    have := act_rep3 n
    simp [List.replicate, Gd.act, this]
theorem hz_gr {l : List ByteArray} (hn : l.Nodup) {k : Nat} (hk : k ≤ l.length) : hz (sta (gr l k) l) = List.replicate k 3 ++ List.replicate (l.length - k) 0 := by
  rw [hz_sta]
  apply List.ext_getElem?
  intro i
  by_cases hi : i < l.length
  · have e1 : (l.map fun x => (gr l k x).1)[i]? = some (gr l k (l.getD i ⟨#[]⟩)).1 := by
      rw [List.getElem?_map, List.getElem?_eq_getElem hi]
      simp [List.getD, hi]
    rw [e1]
    unfold gr
    rw [fidx_nodup hn i hi]
    by_cases h : i < k
    · rw [if_pos h, List.getElem?_append_left (by simpa using h), List.getElem?_replicate, if_pos h]
    · rw [if_neg h, List.getElem?_append_right (by simp; omega), List.getElem?_replicate, if_pos (by simp; omega)]
  · rw [List.getElem?_eq_none (by simp; omega), List.getElem?_eq_none (by simp; omega)]
theorem cap_gr {l : List ByteArray} (hn : l.Nodup) (h4 : l.length ≤ 4000) {k : Nat} (hk : k ≤ l.length) : capF (z0F (gr l k) l).H 1 = (l.length : Int) - k := by
  show capF (sta (gr l k) l) 1 = _
  rw [capF_one (by rw [sta_length]; exact h4) (by decide) (by decide), hz_gr hn hk, Gd.act_append, act_rep3, act_rep0]
  omega
def bN : ByteArray := ⟨#[110, 111, 98, 111, 100, 121]⟩
def bQ : ByteArray := ⟨#[63]⟩
theorem for_n {l : List ByteArray} (hs : ∀ s ∈ l, s ∈ names6) (g : ByteArray → Int × Bool) (d : Int) : foE bN (z0F g l) = 5 ∧ foS bN d (z0F g l) = z0F g l := by
  have h6 : ∀ s ∈ names6, s.size = 2 := fun s hs => by
    simp [names6] at hs
    rcases hs with rfl | rfl | rfl | rfl | rfl | rfl <;> rfl
  have hb : bN ∉ l := fun h => absurd (h6 _ (hs _ h)) (by decide +kernel)
  have h1 : foE bN (z0F g l) = 5 := by
    unfold foE z0F
    have : errF bN (sta g l) = 5 := by
      unfold errF
      rw [if_neg (by decide +kernel), if_pos (isH_sta'.2 hb)]
    rw [if_neg (by rw [this]; decide), this]
  exact ⟨h1, by unfold foS; rw [h1]; rfl⟩
theorem for_q (l : List ByteArray) (g : ByteArray → Int × Bool) (d : Int) : foE bQ (z0F g l) = 11 ∧ foS bQ d (z0F g l) = z0F g l := by
  have h1 : foE bQ (z0F g l) = 11 := by
    unfold foE z0F
    have : errF bQ (sta g l) = 11 := by
      unfold errF
      rw [if_pos (by decide +kernel)]
    rw [if_neg (by rw [this]; decide), this]
  exact ⟨h1, by unfold foS; rw [h1]; rfl⟩
end Go.Proofs.YtmlkpfkeeifgeaaDoor
