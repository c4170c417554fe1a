/-
  The walk of StateNext: it returns true and turns nothing that was there. Conditions: the tables read as they are laid; the slice reads as a list of ints.
-/
import Derived.Test.YtpomhlhpeckkhaaDoorLives
namespace Go.Proofs.YtpomhlhpeckkhaaDoor
open Go.ChangeShapes Go.WideShapes Go.ChangeAt Go.RowKit

set_option maxHeartbeats 2000000 in
theorem next_walk (s ev0 : Int) (a : Option Addr) (len cap : Nat) (zs : List Int) (w : World) (hn : Tabs w) (hv : Evs w) (hr : IntsAt w a len cap zs) :
    Calls Tryd.prog 3 #[.int .i64 s, .int .i64 ev0, .slice a len cap] w fun e w' => e = .returned (.bool true) ∧ Below w.heap.size w w' := by
  have hle := hr.hle
  have hcap := hr.hcap
  unfold maxLen at hcap
  obtain ⟨m, hm⟩ : ∃ m, m = min len 40 := ⟨_, rfl⟩
  have HR : Hid (IntsAt w a m cap (zs.take m)) := hr.take (by omega)
  have HN : Hid (Tabs w) := hn
  have HV : Hid (Evs w) := hv
  clear hr hn hv
  obtain ⟨ys, hys⟩ : ∃ ys, zs.take m = ys := ⟨_, rfl⟩
  rw [hys] at HR
  clear hys zs
  by_cases h40 : len ≤ 40
  · have e : m = len := by omega
    subst e
    clear hm
    go_enter Tryd.func3, Tryd.ntmps3
    go_wp2_with fail
    refine (lives_any w HN.out).mono ?_
    rintro e w1 ⟨rfl, hb⟩
    have HB : Hid _ := hb
    have HR1 : Hid _ := HR.out.below hb
    have HN1 : Hid _ := HN.out.below hb
    have HV1 : Hid _ := HV.out.below hb
    clear hb HR HN HV
    go_wp2_with (first
      | (go_at_call 9; refine (next_any _ _ _ HN1.out).mono ?_; rintro e w' ⟨rfl, rfl⟩)
      | (go_at_call 10; refine (rnext_any _ _ _).mono ?_; rintro e w' ⟨rfl, rfl⟩)
      | (go_at_call 11; refine (walk_any _ _ _ _ _ _ HN1.out HR1.out).mono ?_; rintro e w' ⟨rfl, rfl⟩)
      | (go_at_call 12; refine (rwalk_any _ _ _ _ _ _ HR1.out).mono ?_; rintro e w' ⟨rfl, rfl⟩)
      | (go_at_call 13; refine (name_any _ _ HN1.out).mono ?_; rintro e w' ⟨rfl, rfl⟩)
      | (go_at_call 14; refine (rname_any _ _).mono ?_; rintro e w2 ⟨rfl, hb2⟩)
      | (go_at_call 15; refine (event_any _ _ (HV1.out.below (by assumption))).mono ?_; rintro e w' ⟨rfl, rfl⟩)
      | (go_at_call 16; refine (revent_any _ _).mono ?_; rintro e w3 ⟨rfl, hb3⟩)
      | (go_at_call 17; refine (serves_any _ _).mono ?_; rintro e w' ⟨rfl, rfl⟩)
      | (go_at_call 18; refine (opens_any _ _).mono ?_; rintro e w' ⟨rfl, rfl⟩))
    go_ret
    exact ⟨rfl, HB.out.trans ((hb2.trans (hb3.mono hb2.size)).mono HB.out.size)⟩
  · have e : m = 40 := by omega
    subst e
    clear hm
    go_enter Tryd.func3, Tryd.ntmps3
    go_wp2_with fail
    refine (lives_any w HN.out).mono ?_
    rintro e w1 ⟨rfl, hb⟩
    have HB : Hid _ := hb
    have HR1 : Hid _ := HR.out.below hb
    have HN1 : Hid _ := HN.out.below hb
    have HV1 : Hid _ := HV.out.below hb
    clear hb HR HN HV
    go_wp2_with (first
      | (go_at_call 9; refine (next_any _ _ _ HN1.out).mono ?_; rintro e w' ⟨rfl, rfl⟩)
      | (go_at_call 10; refine (rnext_any _ _ _).mono ?_; rintro e w' ⟨rfl, rfl⟩)
      | (go_at_call 11; refine (walk_any _ _ _ _ _ _ HN1.out HR1.out).mono ?_; rintro e w' ⟨rfl, rfl⟩)
      | (go_at_call 12; refine (rwalk_any _ _ _ _ _ _ HR1.out).mono ?_; rintro e w' ⟨rfl, rfl⟩)
      | (go_at_call 13; refine (name_any _ _ HN1.out).mono ?_; rintro e w' ⟨rfl, rfl⟩)
      | (go_at_call 14; refine (rname_any _ _).mono ?_; rintro e w2 ⟨rfl, hb2⟩)
      | (go_at_call 15; refine (event_any _ _ (HV1.out.below (by assumption))).mono ?_; rintro e w' ⟨rfl, rfl⟩)
      | (go_at_call 16; refine (revent_any _ _).mono ?_; rintro e w3 ⟨rfl, hb3⟩)
      | (go_at_call 17; refine (serves_any _ _).mono ?_; rintro e w' ⟨rfl, rfl⟩)
      | (go_at_call 18; refine (opens_any _ _).mono ?_; rintro e w' ⟨rfl, rfl⟩))
    go_ret
    exact ⟨rfl, HB.out.trans ((hb2.trans (hb3.mono hb2.size)).mono HB.out.size)⟩

end Go.Proofs.YtpomhlhpeckkhaaDoor
