/-
  A fleet of names that may be, each with a state and a mark: how its hosts are found and written, and what comes of resolving none to such a list. Conditions: no name stands twice.
-/
import Derived.Test.YtmlkpfkeeifgeaaDoorFLives
import Derived.Test.YtmlkpfkeeifgeaaDoorGood
namespace Go.Proofs.YtmlkpfkeeifgeaaDoor

/-- Hosts of the names l, their states and marks told by g. -/
def sta (g : ByteArray → Int × Bool) (l : List ByteArray) : List Hs := l.map (fun x => ⟨x, (g x).1, (g x).2⟩)
def g0 : ByteArray → Int × Bool := fun _ => (0, false)
def up (g : ByteArray → Int × Bool) (x : ByteArray) (p : Int × Bool) : ByteArray → Int × Bool := fun y => if y = x then p else g y
theorem up_same (g : ByteArray → Int × Bool) (x : ByteArray) (p : Int × Bool) : up g x p x = p := if_pos rfl
theorem up_ne {g : ByteArray → Int × Bool} {x y : ByteArray} {p : Int × Bool} (h : y ≠ x) : up g x p y = g y := if_neg h
theorem up_up (g : ByteArray → Int × Bool) (x : ByteArray) (p q : Int × Bool) : up (up g x p) x q = up g x q := by
  funext y
  unfold up
  split <;> rfl
theorem up_self (g : ByteArray → Int × Bool) (x : ByteArray) : up g x (g x) = g := by
  funext y
  unfold up
  split
  · rename_i h; rw [h]
  · rfl
theorem hn_sta (g : ByteArray → Int × Bool) (l : List ByteArray) : hn (sta g l) = l := by
  unfold hn sta
  rw [List.map_map]
  exact List.map_id' l
theorem sta_length (g : ByteArray → Int × Bool) (l : List ByteArray) : (sta g l).length = l.length := by simp [sta]
theorem sta_nil (g : ByteArray → Int × Bool) : sta g [] = [] := rfl
theorem sta_append (g : ByteArray → Int × Bool) (l m : List ByteArray) : sta g (l ++ m) = sta g l ++ sta g m := by simp [sta]
theorem plN_sta (x : ByteArray) (g : ByteArray → Int × Bool) (l : List ByteArray) : plN x (sta g l) = fidx x l := by unfold plN; rw [hn_sta]
theorem isH_sta {x : ByteArray} {g : ByteArray → Int × Bool} {l : List ByteArray} : isH x (sta g l) = true ↔ x ∈ l := by rw [isH_iff, hn_sta]
theorem isH_sta' {x : ByteArray} {g : ByteArray → Int × Bool} {l : List ByteArray} : isH x (sta g l) = false ↔ x ∉ l := by rw [isH_not, hn_sta]
theorem sta_get {g : ByteArray → Int × Bool} {l : List ByteArray} {i : Nat} (h : i < l.length) : atH (sta g l) i = ⟨l.getD i ⟨#[]⟩, (g (l.getD i ⟨#[]⟩)).1, (g (l.getD i ⟨#[]⟩)).2⟩ := by
  simp [atH, sta, List.getD, h]
theorem ofN_sta {x : ByteArray} {g : ByteArray → Int × Bool} {l : List ByteArray} (h : x ∈ l) : ofN x (sta g l) = ⟨x, (g x).1, (g x).2⟩ := by
  unfold ofN
  have h1 := (fidx_mem x l).2 h
  rw [plN_sta, sta_get h1, fidx_at x l h1]
theorem sta_set {x : ByteArray} {g : ByteArray → Int × Bool} : ∀ {l : List ByteArray}, l.Nodup → x ∈ l → ∀ p : Int × Bool, (sta g l).set (fidx x l) ⟨x, p.1, p.2⟩ = sta (up g x p) l
  | [], _, h, _ => by cases h
  | y :: l, hn, h, p => by
    have hy : y ∉ l ∧ l.Nodup := by simpa using hn
    unfold fidx
    by_cases hx : y = x
    · rw [if_pos hx]
      subst hx
      have : sta (up g y p) l = sta g l := by
        unfold sta
        apply List.map_congr_left
        intro z hz
        have : z ≠ y := fun e => hy.1 (e ▸ hz)
        rw [up_ne this]
      show ⟨y, p.1, p.2⟩ :: sta g l = ⟨y, (up g y p y).1, (up g y p y).2⟩ :: sta (up g y p) l
      rw [this, up_same]
    · rw [if_neg hx]
      have hm : x ∈ l := by
        rcases List.mem_cons.1 h with h | h
        · exact absurd h.symm hx
        · exact h
      show ⟨y, (g y).1, (g y).2⟩ :: (sta g l).set (fidx x l) ⟨x, p.1, p.2⟩ = ⟨y, (up g x p y).1, (up g x p y).2⟩ :: sta (up g x p) l
      rw [sta_set hy.2 hm p, up_ne hx]
theorem setS_sta {x : ByteArray} {g : ByteArray → Int × Bool} {l : List ByteArray} (hn : l.Nodup) (h : x ∈ l) (s : Int) : setS (sta g l) (plN x (sta g l)) s = sta (up g x (s, (g x).2)) l := by
  have := ofN_sta (g := g) h
  unfold ofN at this
  unfold setS
  rw [this, plN_sta]
  exact sta_set hn h (s, (g x).2)
theorem setV_sta {x : ByteArray} {g : ByteArray → Int × Bool} {l : List ByteArray} (hn : l.Nodup) (h : x ∈ l) (b : Bool) : setV (sta g l) (plN x (sta g l)) b = sta (up g x ((g x).1, b)) l := by
  have := ofN_sta (g := g) h
  unfold ofN at this
  unfold setV
  rw [this, plN_sta]
  exact sta_set hn h ((g x).1, b)
theorem tnH_sta {x : ByteArray} {g : ByteArray → Int × Bool} {l : List ByteArray} (hn : l.Nodup) (h : x ∈ l) (ev : Int) : tnH (plN x (sta g l)) ev (sta g l) = sta (up g x (St.nx (g x).1 ev, (g x).2)) l := by
  unfold tnH
  have := ofN_sta (g := g) h
  unfold ofN at this
  rw [setS_sta hn h, this]
theorem errF_sta {x : ByteArray} {g : ByteArray → Int × Bool} {l : List ByteArray} (h0 : nameB x = true) (h : x ∈ l) : errF x (sta g l) = 0 := by
  unfold errF
  rw [h0, isH_sta.2 h]
  rfl
theorem hz_sta (g : ByteArray → Int × Bool) (l : List ByteArray) : hz (sta g l) = l.map (fun x => (g x).1) := by simp [hz, sta]
theorem sta_congr {g g' : ByteArray → Int × Bool} {l : List ByteArray} (h : ∀ x ∈ l, g x = g' x) : sta g l = sta g' l := by
  unfold sta
  apply List.map_congr_left
  intro x hx
  rw [h x hx]

theorem good_all {l : List ByteArray} (hs : ∀ s ∈ l, s ∈ names6) : ∀ x ∈ l, nameB x = true := fun x hx => names6_ok x (hs x hx)
theorem good_size {l : List ByteArray} (hs : ∀ s ∈ l, s ∈ names6) : ∀ x ∈ l, x.size ≤ maxLen := fun x hx => by
  have := nameB_size (good_all hs x hx)
  unfold maxLen
  omega
theorem good_chk {l : List ByteArray} (h : l.Nodup) (hs : ∀ s ∈ l, s ∈ names6) : Df.chk l = 0 := by
  have h1 := good_len h hs
  have h2 : l.all Df.nameB = true := List.all_eq_true.2 (fun x hx => good_all hs x hx)
  exact Df.chk_good (by omega) h2 h

theorem enS_new : ∀ (l k : List ByteArray), (k ++ l).Nodup → enS l ⟨sta g0 k, [], []⟩ = ⟨sta g0 (k ++ l), [], []⟩ ∧ enN l ⟨sta g0 k, [], []⟩ = l
  | [], k, _ => by simp [enS, enN]
  | x :: l, k, h => by
    have hx : x ∉ k := by
      intro hx
      have := List.nodup_append.1 h
      exact this.2.2 x hx x (by simp) rfl
    have h1 : en1 x ⟨sta g0 k, [], []⟩ = ⟨sta g0 (k ++ [x]), [], []⟩ := by
      unfold en1
      rw [if_pos (isH_sta'.2 hx), sta_append]
      rfl
    have h2 : enN1 x ⟨sta g0 k, [], []⟩ = [x] := by
      unfold enN1
      rw [if_pos (isH_sta'.2 hx)]
    have h3 := enS_new l (k ++ [x]) (by simpa using h)
    constructor
    · show enS l (en1 x _) = _
      rw [h1, h3.1]
      simp
    · show enN1 x _ ++ enN l (en1 x _) = _
      rw [h1, h2, h3.2]
      rfl
theorem res_new {l : List ByteArray} (h : l.Nodup) (hc : Df.chk l = 0) (d : Int) : reE l = 0 ∧ reS l d ⟨[], [], []⟩ = ⟨sta g0 l, [], []⟩ ∧ reC l d ⟨[], [], []⟩ = l ∧ reN l ⟨[], [], []⟩ = [] := by
  have := enS_new l [] (by simpa using h)
  unfold reE reS reC reN
  rw [hc, if_pos rfl, if_pos rfl, if_pos rfl]
  exact ⟨rfl, this.1, this.2, rfl⟩
end Go.Proofs.YtmlkpfkeeifgeaaDoor
