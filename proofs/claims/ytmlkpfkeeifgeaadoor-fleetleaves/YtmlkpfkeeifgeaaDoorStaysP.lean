/-
  A fleet whose hosts all stay: no step takes one away or lets it leave, and resolving to the same names changes nothing. What Same tells of numbers. Conditions: slices lie where they are said to lie.
-/
import Derived.Test.YtmlkpfkeeifgeaaDoorInvP
namespace Go.Proofs.YtmlkpfkeeifgeaaDoor
open Go.ChangeShapes Go.WideShapes Go.ChangeAt Go.RowKit

def pk (H : List Hs) : List (ByteArray × Bool) := H.map (fun h => (h.nm, h.lv))
theorem pk_setS : ∀ (H : List Hs) (i : Nat) (v : Int), pk (setS H i v) = pk H
  | [], _, _ => rfl
  | _ :: _, 0, _ => rfl
  | h :: H, i + 1, v => by
    have e : atH (h :: H) (i + 1) = atH H i := by simp [atH]
    have := pk_setS H i v
    unfold pk setS at this ⊢
    rw [e, List.set_cons_succ, List.map_cons, List.map_cons, this]
theorem pk_tnH (H : List Hs) (i : Nat) (ev : Int) : pk (tnH i ev H) = pk H := pk_setS _ _ _
/-- All of them stay. -/
def Ks (ns : List ByteArray) (s : Fl) : Prop := pk s.H = ns.map (fun x => (x, false))
section
variable {ns : List ByteArray} {s : Fl}
theorem Ks.hn (h : Ks ns s) : hn s.H = ns := by
  have h1 : Go.Proofs.YtmlkpfkeeifgeaaDoor.hn s.H = (pk s.H).map Prod.fst := by unfold Go.Proofs.YtmlkpfkeeifgeaaDoor.hn pk; rw [List.map_map]; rfl
  have h2 : (ns.map (fun x => (x, false))).map Prod.fst = ns := by
    rw [List.map_map]
    exact List.map_id' ns
  rw [h1, h, h2]
theorem Ks.lv (h : Ks ns s) : ∀ y ∈ s.H, y.lv = false ∧ y.nm ∈ ns := by
  intro y hy
  have h1 : (y.nm, y.lv) ∈ pk s.H := List.mem_map_of_mem (f := fun h : Hs => (h.nm, h.lv)) hy
  rw [h] at h1
  obtain ⟨x, hx, e⟩ := List.mem_map.1 h1
  have e1 : x = y.nm := congrArg Prod.fst e
  have e2 : false = y.lv := congrArg Prod.snd e
  exact ⟨e2.symm, e1 ▸ hx⟩
theorem Ks.of (h : Ks ns s) (x : ByteArray) : (ofN x s.H).lv = false := by
  unfold ofN
  by_cases hi : plN x s.H < s.H.length
  · rw [atH_eq hi]
    exact (h.lv _ (List.getElem_mem hi)).1
  · unfold atH
    have : s.H[plN x s.H]? = none := List.getElem?_eq_none (by omega)
    simp [List.getD, this]
    rfl
theorem pk_adm (e gd d : Int) : ∀ (L M : List Dr) (H : List Hs), pk (adm e gd d H L M).1.H = pk H
  | [], _, _ => rfl
  | p :: L, M, H => by
    unfold adm
    split
    · show pk (adm e gd d (tnH _ _ _) L _).1.H = _
      rw [pk_adm e gd d L, pk_tnH]
    · rfl
theorem Ks.step (h : Ks ns s) (e gd k n : Int) (x : ByteArray) (q : List ByteArray) (hk : ¬ k = 0) : Ks ns (stp e gd k n x q s).s := by
  have hof := h.of x
  unfold Ks at *
  rw [← h]
  unfold stp
  rw [if_neg hk]
  split
  · show pk (drS x s).H = _
    unfold drS
    split <;> rfl
  split
  · show pk (unS x s).H = _
    unfold unS
    split
    · show pk (if _ then _ else _ : List Hs) = _
      split
      · rfl
      · exact pk_tnH _ _ _
    · rfl
  split
  · show pk (foS x n s).H = _
    unfold foS
    split
    · exact pk_tnH _ _ _
    · rfl
  split
  · show pk (ejS x e gd s).H = _
    unfold ejS
    split
    · exact pk_tnH _ _ _
    · rfl
  split
  · exact pk_adm e gd n s.L s.M s.H
  split
  · show pk (prS x s).H = _
    unfold prS
    split
    · exact pk_tnH _ _ _
    · rfl
  · show pk (emS x s).H = _
    unfold emS
    split
    · show pk (if _ then _ else _ : List Hs) = _
      rw [if_neg (by rw [hof]; simp)]
      exact pk_tnH _ _ _
    · rfl
theorem lv_id {l : List ByteArray} {d : Int} : ∀ {H : List Hs}, (∀ y ∈ H, y.lv = false ∧ y.nm ∈ l) → lvH l H = H ∧ lvN l H = [] ∧ ∀ L M, lvL l d H L M = (L, M)
  | [], _ => ⟨rfl, rfl, fun _ _ => rfl⟩
  | y :: H, h => by
    obtain ⟨q1, q2, q3⟩ := lv_id (d := d) (H := H) (fun z hz => h z (by simp [hz]))
    have h1 : lvNow l y = false := by
      unfold lvNow
      rw [hasB_iff.2 (h y (by simp)).2]
      rfl
    refine ⟨?_, ?_, fun L M => ?_⟩
    · unfold lvH lvStay
      rw [if_pos h1, q1]
      rfl
    · unfold lvN
      rw [if_neg (by rw [h1]; simp), q2]
      rfl
    · unfold lvL lvBeg
      rw [if_neg (by rw [h1]; simp)]
      exact q3 L M
theorem en_id (h : Ks ns s) : ∀ {l : List ByteArray}, (∀ x ∈ l, x ∈ ns) → enS l s = s ∧ enN l s = []
  | [], _ => ⟨rfl, rfl⟩
  | x :: l, hl => by
    obtain ⟨q1, q2⟩ := en_id h (l := l) (fun y hy => hl y (by simp [hy]))
    have h1 : isH x s.H = true := isH_iff.2 (by rw [h.hn]; exact hl x (by simp))
    have h2 := h.of x
    have e1 : en1 x s = s := by
      unfold en1
      rw [if_neg (by rw [h1]; simp), if_neg (by rw [h2]; simp)]
    refine ⟨by unfold enS; rw [e1, q1], ?_⟩
    unfold enN enN1
    rw [e1, q2, if_neg (by rw [h1]; simp), if_neg (by rw [h2]; simp)]
    rfl
/-- Resolving to the names that are there. -/
theorem Ks.again (h : Ks ns s) (hc : Df.chk ns = 0) (d : Int) : reE ns = 0 ∧ reS ns d s = s ∧ reC ns d s = [] ∧ reN ns s = [] := by
  obtain ⟨q1, q2, q3⟩ := lv_id (d := d) (l := ns) h.lv
  have e1 : lvS ns d s = s := by
    unfold lvS
    rw [q1, q3]
  obtain ⟨q4, q5⟩ := en_id h (l := ns) (fun _ hx => hx)
  unfold reE reS reC reN
  rw [hc, if_pos rfl, if_pos rfl, if_pos rfl, e1]
  exact ⟨rfl, q4, q5, q2⟩
theorem Ks.start (ns : List ByteArray) (L M : List Dr) : Ks ns ⟨sta g0 ns, L, M⟩ := by
  unfold Ks pk sta
  rw [List.map_map]
  rfl
theorem Ks.len (h : Ks ns s) : s.H.length = ns.length := by rw [← hn_length, h.hn]
end

theorem same_ints (a b : Option Addr) (len cap cap' : Nat) (zs : List Int) (w : World) (h : IntsAt w a len cap zs) (h' : IntsAt w b len cap' zs) :
    Calls Tryd.prog 36 #[.slice a len cap, .slice b len cap'] w fun e w' => e = .returned (.bool true) ∧ Below w.heap.size w w' := by
  have hl1 := h.hle
  have hc1 := h.hcap
  have hl2 := h'.hle
  have hc2 := h'.hcap
  unfold maxLen at hc1 hc2
  go_enter Tryd.func36, Tryd.ntmps36
  go_wp2
  go_loopw [5] (fun vi wr => ∃ (k q : Nat), k ≤ len ∧ vi = .int .i64 k ∧ wr = w.drewN q) (fun vi _ => len - (intOf vi).toNat)
  case atStart => exact ⟨0, 0, Nat.zero_le _, rfl, rfl⟩
  case round =>
    obtain ⟨k, q, hk, rfl, hwr⟩ := hrel
    subst hwr
    by_cases hlt : k < len
    · obtain ⟨b1, off1, rfl, _, c1⟩ := h.at_ k hlt
      obtain ⟨b2, off2, rfl, _, c2⟩ := h'.at_ k hlt
      generalize zs.getD k 0 = z at c1 c2
      have hkn : (k : Int) < (len : Int) := by omega
      clear h h'
      go_wp2
      go_quiet (fail)
      go_wp2
      refine ⟨⟨k + 1, _, by omega, by simp, rfl⟩, by simp [intOf]; omega⟩
    · go_wp2
      go_ret
      exact ⟨rfl, below_drewN (Below.refl _ _) q⟩

end Go.Proofs.YtmlkpfkeeifgeaaDoor
