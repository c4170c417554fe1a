/-
  Contracts of the guard's calls and of the document's own answers, each with its answer by a name. Conditions: a slice reads as the listed ints; of the document's own, at most 20, and the connections of a host lie within 1000.
-/
import Derived.Test.YtkppicocjipakaaLives
namespace Go.Proofs.Ytkppicocjipakaa
open Go.ChangeShapes Go.WideShapes Go.ChangeAt Go.RowKit

theorem rcap_n (a : Option Addr) (len cap : Nat) (zs : List Int) (e c : Int) (he : e ≤ 1000) (h20 : len ≤ 20) (h : capI (act zs : Nat) e = c) (w : World) (hr : IntsAt w a len cap zs) :
    Calls Try.prog 14 #[.slice a len cap, .int .i64 e] w fun r w' => r = .returned (.int .i64 c) ∧ w' = w := by
  rw [cap_pos (by rw [hr.hlen]; exact h20) he] at h
  rw [← h]
  exact rcap_any a len cap zs e he h20 w hr
theorem rmay_n (a : Option Addr) (len cap : Nat) (zs : List Int) (i e g : Int) (b : Bool) (he : e ≤ 1000) (h20 : len ≤ 20) (h : mayB zs i e g = b) (w : World) (hr : IntsAt w a len cap zs) :
    Calls Try.prog 16 #[.slice a len cap, .int .i64 i, .int .i64 e, .int .i64 g] w fun r w' => r = .returned (.bool b) ∧ Below w.heap.size w w' := by
  rw [← h]
  exact rmay_any a len cap zs i e g he h20 w hr
theorem without_n (a : Option Addr) (len cap : Nat) (zs : List Int) (i e c : Int) (h : withI zs i e = c) (w : World) (hr : IntsAt w a len cap zs) :
    Calls Try.prog 17 #[.slice a len cap, .int .i64 i, .int .i64 e] w fun r w' => r = .returned (.int .i64 c) ∧ w' = w := by
  rw [← h]
  exact without_any a len cap zs i e w hr
theorem rwithout_n (a : Option Addr) (len cap : Nat) (zs : List Int) (i e c : Int) (he : e ≤ 1000) (h20 : len ≤ 20) (h : withI zs i e = c) (w : World) (hr : IntsAt w a len cap zs) :
    Calls Try.prog 18 #[.slice a len cap, .int .i64 i, .int .i64 e] w fun r w' => r = .returned (.int .i64 c) ∧ Below w.heap.size w w' := by
  rw [without_rm (by rw [hr.hlen]; exact h20) he] at h
  rw [← h]
  exact rwithout_any a len cap zs i e he h20 w hr
theorem rspare_n (a : Option Addr) (len cap : Nat) (zs : List Int) (e g c : Int) (he : e ≤ 1000) (h20 : len ≤ 20) (h : (act zs : Int) - (down (act zs) e g : Nat) = c) (w : World) (hr : IntsAt w a len cap zs) (hn : a = none → len = 0 ∧ cap = 0) :
    Calls Try.prog 20 #[.slice a len cap, .int .i64 e, .int .i64 g] w fun r w' => r = .returned (.int .i64 c) ∧ Below w.heap.size w w' := by
  rw [← h]
  exact rspare_any a len cap zs e g he h20 w hr hn
theorem first_n (a : Option Addr) (len cap : Nat) (zs : List Int) (a' : Option Addr) (len' cap' : Nat) (l : List Int) (e g k : Int) (b : Bool) (h : firstI zs e g l = (k, b)) (w : World) (hr : IntsAt w a len cap zs) (hr' : IntsAt w a' len' cap' l) :
    Calls Try.prog 11 #[.slice a len cap, .slice a' len' cap', .int .i64 e, .int .i64 g] w fun r w' => r = .returned (.tuple #[.int .i64 k, .bool b]) ∧ Below w.heap.size w w' := by
  have := first_any a len cap zs a' len' cap' l e g w hr hr'
  rw [h] at this
  exact this
theorem rfirst_n (a : Option Addr) (len cap : Nat) (zs : List Int) (a' : Option Addr) (len' cap' : Nat) (l : List Int) (e g k : Int) (b : Bool) (he : e ≤ 1000) (h20 : len ≤ 20) (h : firstI zs e g l = (k, b)) (w : World) (hr : IntsAt w a len cap zs) (hr' : IntsAt w a' len' cap' l) :
    Calls Try.prog 12 #[.slice a len cap, .slice a' len' cap', .int .i64 e, .int .i64 g] w fun r w' => r = .returned (.tuple #[.int .i64 k, .bool b]) ∧ Below w.heap.size w w' := by
  have := rfirst_any a len cap zs a' len' cap' l e g he h20 w hr hr'
  rw [h] at this
  exact this

end Go.Proofs.Ytkppicocjipakaa
