/-
  Next, the program's and the document's own, as contracts. Condition, of the program's: the tables read as they are laid.
-/
import Derived.Test.YtpomhlhpeckkhaaDoorSmall
namespace Go.Proofs.YtpomhlhpeckkhaaDoor
open Go.ChangeShapes Go.WideShapes Go.ChangeAt Go.RowKit

set_option maxHeartbeats 1000000 in
theorem next_any (s e : Int) (w : World) (hn : Tabs w) :
    Calls Tryd.prog 9 #[.int .i64 s, .int .i64 e] w fun r w' => r = .returned (.tuple #[.int .i64 (nx s e), .bool (did s e)]) ∧ w' = w := by
  by_cases hs : 0 ≤ s ∧ s ≤ 3
  · have hks : inS s = true := inS_iff.2 hs
    by_cases he : 0 ≤ e ∧ e ≤ 6
    · have hke : inE e = true := inE_iff.2 he
      obtain ⟨i, rfl⟩ : ∃ i : Nat, s = i := ⟨s.toNat, by omega⟩
      obtain ⟨j, rfl⟩ : ∃ j : Nat, e = j := ⟨e.toNat, by omega⟩
      obtain ⟨h1, h2⟩ := hs
      obtain ⟨h3, h4⟩ := he
      have hi4 : (i : Int) < 4 := by omega
      have hj7 : (j : Int) < 7 := by omega
      have hc := hn.leads (i * 7 + j) (by omega)
      obtain ⟨x, hx⟩ : ∃ x, x = tab.getD (i * 7 + j) 0 := ⟨_, rfl⟩
      rw [← hx] at hc
      have hl : ld i j = x := by rw [hx]; rfl
      clear hx
      by_cases h : x = -1
      · have hd : did i j = false := by simp [did, hl, h]
        rw [nx_still hd, hd]
        subst h
        clear hd hl hn
        go_enter Tryd.func9, Tryd.ntmps9
        go_wp2_with (first
          | (go_at_call 20; refine (isState_any _ _).mono ?_; rintro e w' ⟨rfl, rfl⟩)
          | (go_at_call 21; refine (isEvent_any _ _).mono ?_; rintro e w' ⟨rfl, rfl⟩))
        go_ret2
        exact ⟨rfl, rfl⟩
      · have hd : did i j = true := by simp [did, hl, h, hks, hke]
        rw [nx_did hd, hd, hl]
        have h' : (x == -1) = false := by simpa using h
        clear hd hl hn h
        go_enter Tryd.func9, Tryd.ntmps9
        go_wp2_with (first
          | (go_at_call 20; refine (isState_any _ _).mono ?_; rintro e w' ⟨rfl, rfl⟩)
          | (go_at_call 21; refine (isEvent_any _ _).mono ?_; rintro e w' ⟨rfl, rfl⟩))
        go_ret2
        exact ⟨rfl, rfl⟩
    · have hke := inE_false he
      have hd : did s e = false := did_outE hke
      rw [nx_still hd, hd]
      clear hd hs he hn
      go_enter Tryd.func9, Tryd.ntmps9
      go_wp2_with (first
        | (go_at_call 20; refine (isState_any _ _).mono ?_; rintro e w' ⟨rfl, rfl⟩)
        | (go_at_call 21; refine (isEvent_any _ _).mono ?_; rintro e w' ⟨rfl, rfl⟩))
      go_ret2
      exact ⟨rfl, rfl⟩
  · have hks := inS_false hs
    have hd : did s e = false := did_outS hks
    rw [nx_still hd, hd]
    clear hd hs hn
    go_enter Tryd.func9, Tryd.ntmps9
    go_wp2_with (first
      | (go_at_call 20; refine (isState_any _ _).mono ?_; rintro e w' ⟨rfl, rfl⟩)
      | (go_at_call 21; refine (isEvent_any _ _).mono ?_; rintro e w' ⟨rfl, rfl⟩))
    go_ret2
    exact ⟨rfl, rfl⟩

/-- By names. -/
theorem next_n (s e : Int) (w : World) (hn : Tabs w) (t : Int) (b : Bool) (ht : nx s e = t) (hb : did s e = b) :
    Calls Tryd.prog 9 #[.int .i64 s, .int .i64 e] w fun r w' => r = .returned (.tuple #[.int .i64 t, .bool b]) ∧ w' = w := by
  rw [← ht, ← hb]
  exact next_any s e w hn

theorem rnext_out (s e : Int) (w : World) (h0 : (s == 0) = false) (h1 : (s == 1) = false) (h2 : (s == 2) = false) (h3 : (s == 3) = false) :
    Calls Tryd.prog 10 #[.int .i64 s, .int .i64 e] w fun r w' => r = .returned (.tuple #[.int .i64 s, .bool false]) ∧ w' = w := by
  go_enter Tryd.func10, Tryd.ntmps10
  go_wp2
  go_ret2
  exact ⟨rfl, rfl⟩

theorem rnext_0 (e : Int) (w : World) :
    Calls Tryd.prog 10 #[.int .i64 0, .int .i64 e] w fun r w' => r = .returned (.tuple #[.int .i64 (nx 0 e), .bool (did 0 e)]) ∧ w' = w := by
  by_cases h0 : e = 0
  · subst h0
    have hx : nx 0 0 = 1 := by decide
    have hd : did 0 0 = true := by decide
    rw [hx, hd]
    clear hx hd
    go_enter Tryd.func10, Tryd.ntmps10
    go_wp2
    go_ret2
    exact ⟨rfl, rfl⟩
  by_cases h5 : e = 5
  · subst h5
    have hx : nx 0 5 = 1 := by decide
    have hd : did 0 5 = true := by decide
    rw [hx, hd]
    clear hx hd
    go_enter Tryd.func10, Tryd.ntmps10
    go_wp2
    go_ret2
    exact ⟨rfl, rfl⟩
  by_cases h2 : e = 2
  · subst h2
    have hx : nx 0 2 = 2 := by decide
    have hd : did 0 2 = true := by decide
    rw [hx, hd]
    clear hx hd
    go_enter Tryd.func10, Tryd.ntmps10
    go_wp2
    go_ret2
    exact ⟨rfl, rfl⟩
  have hd : did 0 e = false := by rw [did0]; simp [h0, h5, h2]
  rw [nx_still hd, hd]
  have b0 : (e == 0) = false := by simpa using h0
  have b5 : (e == 5) = false := by simpa using h5
  have b2 : (e == 2) = false := by simpa using h2
  clear hd h0 h5 h2
  go_enter Tryd.func10, Tryd.ntmps10
  go_wp2
  go_ret2
  exact ⟨rfl, rfl⟩

theorem rnext_1 (e : Int) (w : World) :
    Calls Tryd.prog 10 #[.int .i64 1, .int .i64 e] w fun r w' => r = .returned (.tuple #[.int .i64 (nx 1 e), .bool (did 1 e)]) ∧ w' = w := by
  by_cases h1 : e = 1
  · subst h1
    have hx : nx 1 1 = 0 := by decide
    have hd : did 1 1 = true := by decide
    rw [hx, hd]
    clear hx hd
    go_enter Tryd.func10, Tryd.ntmps10
    go_wp2
    go_ret2
    exact ⟨rfl, rfl⟩
  by_cases h6 : e = 6
  · subst h6
    have hx : nx 1 6 = 0 := by decide
    have hd : did 1 6 = true := by decide
    rw [hx, hd]
    clear hx hd
    go_enter Tryd.func10, Tryd.ntmps10
    go_wp2
    go_ret2
    exact ⟨rfl, rfl⟩
  by_cases h4 : e = 4
  · subst h4
    have hx : nx 1 4 = 3 := by decide
    have hd : did 1 4 = true := by decide
    rw [hx, hd]
    clear hx hd
    go_enter Tryd.func10, Tryd.ntmps10
    go_wp2
    go_ret2
    exact ⟨rfl, rfl⟩
  have hd : did 1 e = false := by rw [did1]; simp [h1, h6, h4]
  rw [nx_still hd, hd]
  have b1 : (e == 1) = false := by simpa using h1
  have b6 : (e == 6) = false := by simpa using h6
  have b4 : (e == 4) = false := by simpa using h4
  clear hd h1 h6 h4
  go_enter Tryd.func10, Tryd.ntmps10
  go_wp2
  go_ret2
  exact ⟨rfl, rfl⟩

theorem rnext_2 (e : Int) (w : World) :
    Calls Tryd.prog 10 #[.int .i64 2, .int .i64 e] w fun r w' => r = .returned (.tuple #[.int .i64 (nx 2 e), .bool (did 2 e)]) ∧ w' = w := by
  by_cases h0 : e = 0
  · subst h0
    have hx : nx 2 0 = 1 := by decide
    have hd : did 2 0 = true := by decide
    rw [hx, hd]
    clear hx hd
    go_enter Tryd.func10, Tryd.ntmps10
    go_wp2
    go_ret2
    exact ⟨rfl, rfl⟩
  by_cases h5 : e = 5
  · subst h5
    have hx : nx 2 5 = 1 := by decide
    have hd : did 2 5 = true := by decide
    rw [hx, hd]
    clear hx hd
    go_enter Tryd.func10, Tryd.ntmps10
    go_wp2
    go_ret2
    exact ⟨rfl, rfl⟩
  by_cases h3 : e = 3
  · subst h3
    have hx : nx 2 3 = 0 := by decide
    have hd : did 2 3 = true := by decide
    rw [hx, hd]
    clear hx hd
    go_enter Tryd.func10, Tryd.ntmps10
    go_wp2
    go_ret2
    exact ⟨rfl, rfl⟩
  have hd : did 2 e = false := by rw [did2]; simp [h0, h5, h3]
  rw [nx_still hd, hd]
  have b0 : (e == 0) = false := by simpa using h0
  have b5 : (e == 5) = false := by simpa using h5
  have b3 : (e == 3) = false := by simpa using h3
  clear hd h0 h5 h3
  go_enter Tryd.func10, Tryd.ntmps10
  go_wp2
  go_ret2
  exact ⟨rfl, rfl⟩

theorem rnext_3 (e : Int) (w : World) :
    Calls Tryd.prog 10 #[.int .i64 3, .int .i64 e] w fun r w' => r = .returned (.tuple #[.int .i64 (nx 3 e), .bool (did 3 e)]) ∧ w' = w := by
  by_cases h1 : e = 1
  · subst h1
    have hx : nx 3 1 = 0 := by decide
    have hd : did 3 1 = true := by decide
    rw [hx, hd]
    clear hx hd
    go_enter Tryd.func10, Tryd.ntmps10
    go_wp2
    go_ret2
    exact ⟨rfl, rfl⟩
  by_cases h6 : e = 6
  · subst h6
    have hx : nx 3 6 = 0 := by decide
    have hd : did 3 6 = true := by decide
    rw [hx, hd]
    clear hx hd
    go_enter Tryd.func10, Tryd.ntmps10
    go_wp2
    go_ret2
    exact ⟨rfl, rfl⟩
  have hd : did 3 e = false := by rw [did3]; simp [h1, h6]
  rw [nx_still hd, hd]
  have b1 : (e == 1) = false := by simpa using h1
  have b6 : (e == 6) = false := by simpa using h6
  clear hd h1 h6
  go_enter Tryd.func10, Tryd.ntmps10
  go_wp2
  go_ret2
  exact ⟨rfl, rfl⟩

theorem rnext_any (s e : Int) (w : World) :
    Calls Tryd.prog 10 #[.int .i64 s, .int .i64 e] w fun r w' => r = .returned (.tuple #[.int .i64 (nx s e), .bool (did s e)]) ∧ w' = w := by
  by_cases hs : 0 ≤ s ∧ s ≤ 3
  · rcases four hs.1 hs.2 with rfl | rfl | rfl | rfl
    · exact rnext_0 e w
    · exact rnext_1 e w
    · exact rnext_2 e w
    · exact rnext_3 e w
  · have hd : did s e = false := did_outS (inS_false hs)
    rw [nx_still hd, hd]
    exact rnext_out s e w (by simp; omega) (by simp; omega) (by simp; omega) (by simp; omega)

theorem rnext_n (s e : Int) (w : World) (t : Int) (b : Bool) (ht : nx s e = t) (hb : did s e = b) :
    Calls Tryd.prog 10 #[.int .i64 s, .int .i64 e] w fun r w' => r = .returned (.tuple #[.int .i64 t, .bool b]) ∧ w' = w := by
  rw [← ht, ← hb]
  exact rnext_any s e w

end Go.Proofs.YtpomhlhpeckkhaaDoor
