/-
  ChoosePicks's walk: which host serves, is dialled, is to be warmed, and how many there are, is what the document says: it returns true and turns nothing that was there. Conditions: the hosts lie where they are said to lie.
-/
import Derived.Test.YtdiifnakmemadaaLives
import Derived.Test.YtdiifnakmemadaaRWarm
import Derived.Test.YtdiifnakmemadaaRAll
namespace Go.Proofs.Ytdiifnakmemadaa
open Go.ChangeShapes Go.WideShapes Go.ChangeAt Go.RowKit

set_option maxHeartbeats 2000000 in
set_option maxRecDepth 100000 in
theorem picks_walk (a1 : Option Addr) (l1 c1 : Nat) (hs : List Hs) (each warm : Int) (w : World) (hz : HostsAt w a1 l1 c1 hs) :
    Calls Try.prog 3 #[.slice a1 l1 c1, .int .i64 each, .int .i64 warm] w fun e w' => e = .returned (.bool true) ∧ Below w.heap.size w w' := by
  have HZ := Hid.mk' hz
  clear hz
  go_enter Try.func3, Try.ntmps3
  go_wp2_with fail
  refine (lives_any _).mono ?_
  rintro e w1 ⟨rfl, hb1⟩
  have hf := few_any a1 l1 c1 hs w1 (HZ.out.below hb1)
  go_wp2_with fail
  refine hf.mono ?_
  rintro e w2 ⟨v, n, l, rfl, hn, hl, hsm, ho, hb2⟩
  obtain ⟨a2, c2, rfl, hh2, -⟩ := owns_hosts ho
  have hf2 := as_any a2 n c2 l w2 hh2 hn
  have HB2 : Hid (Below w.heap.size w w2) := below_trans hb1 hb2
  have HH2 := Hid.mk' hh2
  clear hf hb1 hb2 ho hh2
  go_wp2_with fail
  refine hf2.mono ?_
  rintro e w3 ⟨v, rfl, ho, hb3⟩
  obtain ⟨a3, c3, rfl, hh3, -⟩ := owns_hosts ho
  have HB3 : Hid (Below w.heap.size w w3) := below_trans HB2.out hb3
  have HH2' : Hid (HostsAt w3 a2 n c2 l) := HH2.out.below hb3
  have HH3 := Hid.mk' hh3
  have HSM := Hid.mk' hsm
  clear hf2 ho hh3 hb3 HH2 HB2 hsm hl
  have H10 : Hid (∀ wx, Below w3.heap.size w3 wx → _) := fun wx hb => Serve_any wx a3 n c3 l (HH3.out.below hb)
  have H11 : Hid (∀ wx, Below w3.heap.size w3 wx → _) := fun wx hb => RServe_any wx a2 n c2 l (HH2'.out.below hb) HSM.out
  have H12 : Hid (∀ wx, Below w3.heap.size w3 wx → _) := fun wx hb => Open_any wx a3 n c3 l each (HH3.out.below hb)
  have H13 : Hid (∀ wx, Below w3.heap.size w3 wx → _) := fun wx hb => ROpen_any wx a2 n c2 l each (HH2'.out.below hb) HSM.out
  have H14 : Hid (∀ wx, Below w3.heap.size w3 wx → _) := fun wx hb => Warm_any wx a3 n c3 l each warm (HH3.out.below hb)
  have H15 : Hid (∀ wx, Below w3.heap.size w3 wx → _) := fun wx hb => RWarm_any wx a2 n c2 l each warm (HH2'.out.below hb) HSM.out
  have H16 : Hid (∀ wx, Below w3.heap.size w3 wx → _) := fun wx hb => All_any wx a3 n c3 l (HH3.out.below hb)
  have H17 : Hid (∀ wx, Below w3.heap.size w3 wx → _) := fun wx hb => RAll_any wx a2 n c2 l (HH2'.out.below hb) HSM.out hn
  unfold ans at H10 H11 H12 H13 H14 H15
  generalize plc (lst servesH busyH l n) = P1 at *
  generalize (lst servesH busyH l n).isSome = B1 at *
  generalize plc (lst (opensH each) allH l n) = P2 at *
  generalize (lst (opensH each) allH l n).isSome = B2 at *
  generalize plc (fstO (warmH each warm) l) = P3 at *
  generalize (fstO (warmH each warm) l).isSome = B3 at *
  generalize allL l = A at *
  have hb33 : Below w3.heap.size w3 w3 := Below.refl _ _
  go_wp2_with (first
    | (go_at_call 10; refine (H10.out _ hb33).mono ?_; rintro e w4 ⟨rfl, hb4⟩)
    | (go_at_call 11; refine (H11.out _ hb4).mono ?_; rintro e w5 ⟨rfl, hb5⟩; have hc5 := below_trans hb4 hb5)
    | (go_at_call 12; refine (H12.out _ hc5).mono ?_; rintro e w6 ⟨rfl, hb6⟩; have hc6 := below_trans hc5 hb6)
    | (go_at_call 13; refine (H13.out _ hc6).mono ?_; rintro e w7 ⟨rfl, hb7⟩; have hc7 := below_trans hc6 hb7)
    | (go_at_call 14; refine (H14.out _ hc7).mono ?_; rintro e w8 ⟨rfl, hb8⟩; have hc8 := below_trans hc7 hb8)
    | (go_at_call 15; refine (H15.out _ hc8).mono ?_; rintro e w9 ⟨rfl, hb9⟩; have hc9 := below_trans hc8 hb9)
    | (go_at_call 16; refine (H16.out _ hc9).mono ?_; rintro e w10 ⟨rfl, hb10⟩; have hc10 := below_trans hc9 hb10)
    | (go_at_call 17; refine (H17.out _ hc10).mono ?_; rintro e w11 ⟨rfl, hb11⟩; have hc11 := below_trans hc10 hb11))
  go_ret
  exact ⟨rfl, below_trans HB3.out hc11⟩

end Go.Proofs.Ytdiifnakmemadaa
