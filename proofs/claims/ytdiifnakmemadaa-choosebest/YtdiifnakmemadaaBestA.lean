/-
  The two tests of ChooseBest's round, each a statement of its own: none of them says that a better host stands there. Conditions: the hosts lie where they are said to lie, and what is chosen is the least one.
-/
import Derived.Test.YtdiifnakmemadaaLives
import Derived.Test.YtdiifnakmemadaaSpec
import Derived.Test.YtdiifnakmemadaaOne
namespace Go.Proofs.Ytdiifnakmemadaa
open Go.ChangeShapes Go.WideShapes Go.ChangeAt Go.RowKit

/-- Region n of a function's code. -/
def regOf (n : Nat) : Code → Option Code
  | .region k ops d => if k = n then some (.region k ops d) else none
  | .seq a b => match regOf n a with
    | some c => some c
    | none => regOf n b
  | .block _ c => regOf n c
  | .scope c => regOf n c
  | .loop c => regOf n c
  | .cond _ a b => match regOf n a with
    | some c => some c
    | none => regOf n b
  | _ => none

set_option maxHeartbeats 2000000 in
set_option maxRecDepth 1000000 in
theorem reg13 (wc : World) (b off n c3' i : Nat) (P1 bz T1 : Int) (B1 S : Bool) (hin : i < n) 
    (x3 : wc.cell? ⟨b, off + i * 5 + 3, none⟩ = some (.int .i64 bz)) (q1 : (if bz < 0 then 0 else bz) = T1)
    (HD : (S = false ∧ B1 = false ∧ (i : Int) = P1) ∨ (S = false ∧ (i : Int) ≠ P1) ∨ (S = true ∧ B1 = true ∧ ∃ (k : Nat) (b2 T2 : Int), (k : Int) = P1 ∧ k < n ∧ wc.cell? ⟨b, off + k * 5 + 3, none⟩ = some (.int .i64 b2) ∧ (if b2 < 0 then 0 else b2) = T2 ∧ T2 ≤ T1 ∧ (i < k → T2 < T1) ∧ (i = k → b2 = bz)))
    {K : Act → World → Prop} {Q : Exit → Act → World → Prop} {c0 c1 c2 c3 c4 c8 c9 c11 c12 c14 c15 c16 c17 c18 c19 c20 c21 c22 c23 c24 c25 c26 c27 c28 c29 c30 c31 c32 c33 c34 c35 c36 c37 c38 c39 c40 c41 c42 c43 c44 c45 c46 c47 c48 c49 c50 c51 c52 c53 c54 c55 c56 c57 c58 c59 c60 c61 c62 c63 c64 c65 c66 c67 c68 c69 c70 c71 c72 c73 c74 c75 c76 c77 c78 c79 c80 c81 c82 c83 c84 c85 c86 c87 c88 c89 c90 c91 c92 c93 c94 c95 c96 c97 c98 c99 c100 c101 c102 c103 c104 c105 c106 c107 c108 c109 c110 c111 c112 c113 c114 c115 c116 c117 c118 c119 c120 c121 c122 c123 c124 c125 c126 c127 c128 c129 c130 c131 c132 c133 c134 c135 c136 c137 c138 c139 c140 c141 c142 c143 c144 c145 c146 c147 c148 c149 c150 c151 c152 c153 c154 c155 c156 c157 c158 c159 c160 c161 c162 c163 c164 c165 c166 c167 c168 c169 c170 c171 c172 c173 c174 c175 c176 c177 c178 c179 c180 c181 c182 c183 c184 c185 c186 c187 c188 c189 c190 c191 c192 c193 c194 : Value}
    (hK : ∀ (u76 u77 u78 u79 u80 u81 u82 u83 u84 u85 u86 u87 u88 u89 u90 u91 u92 u93 u94 u95 u96 u97 u98 u99 u100 u101 u102 u103 u104 u105 u106 u107 u108 u109 u110 u111 u112 u113 u114 u115 u116 u117 u118 u119 u120 u121 u122 u123 u124 u125 u126 : Value) (wx : World), Below wc.heap.size wc wx → K ⟨#[c0, c1, c2, c3, c4, .slice (some ⟨b, off, none⟩) n c3', .int .i64 P1, .bool B1, c8, c9, .int .i64 i, c11, c12, .bool S, c14, c15, c16, c17, c18, c19, c20, c21, c22, c23, c24, c25, c26, c27, c28, c29, c30, c31, c32, c33, c34, c35, c36, c37, c38, c39, c40, c41, c42, c43, c44, c45, c46, c47, c48, c49, c50, c51, c52, c53, c54, c55, c56, c57, c58, c59, c60, c61, c62, c63, c64, c65, c66, c67, c68, c69, c70, c71, c72, c73, c74, c75, u76, u77, u78, u79, u80, u81, u82, u83, u84, u85, u86, u87, u88, u89, u90, u91, u92, u93, u94, u95, u96, u97, u98, u99, u100, u101, u102, u103, u104, u105, u106, u107, u108, u109, u110, u111, u112, u113, u114, u115, u116, u117, u118, u119, u120, u121, u122, u123, u124, u125, u126, .bool false, c128, c129, c130, c131, c132, c133, c134, c135, c136, c137, c138, c139, c140, c141, c142, c143, c144, c145, c146, c147, c148, c149, c150, c151, c152, c153, c154, c155, c156, c157, c158, c159, c160, c161, c162, c163, c164, c165, c166, c167, c168, c169, c170, c171, c172, c173, c174, c175, c176, c177, c178, c179, c180, c181, c182, c183, c184, c185, c186, c187, c188, c189, c190, c191, c192, c193, c194], []⟩ wx) :
    Code.wp Try.prog ((Try.f4.body.bind (regOf 13)).getD .skip) (Exit.then K Q) ⟨#[c0, c1, c2, c3, c4, .slice (some ⟨b, off, none⟩) n c3', .int .i64 P1, .bool B1, c8, c9, .int .i64 i, c11, c12, .bool S, c14, c15, c16, c17, c18, c19, c20, c21, c22, c23, c24, c25, c26, c27, c28, c29, c30, c31, c32, c33, c34, c35, c36, c37, c38, c39, c40, c41, c42, c43, c44, c45, c46, c47, c48, c49, c50, c51, c52, c53, c54, c55, c56, c57, c58, c59, c60, c61, c62, c63, c64, c65, c66, c67, c68, c69, c70, c71, c72, c73, c74, c75, c76, c77, c78, c79, c80, c81, c82, c83, c84, c85, c86, c87, c88, c89, c90, c91, c92, c93, c94, c95, c96, c97, c98, c99, c100, c101, c102, c103, c104, c105, c106, c107, c108, c109, c110, c111, c112, c113, c114, c115, c116, c117, c118, c119, c120, c121, c122, c123, c124, c125, c126, c127, c128, c129, c130, c131, c132, c133, c134, c135, c136, c137, c138, c139, c140, c141, c142, c143, c144, c145, c146, c147, c148, c149, c150, c151, c152, c153, c154, c155, c156, c157, c158, c159, c160, c161, c162, c163, c164, c165, c166, c167, c168, c169, c170, c171, c172, c173, c174, c175, c176, c177, c178, c179, c180, c181, c182, c183, c184, c185, c186, c187, c188, c189, c190, c191, c192, c193, c194], []⟩ wc := by
  conv => arg 2; whnf
  have HKK := Hid.mk' hK
  clear hK
  have hinI : (i : Int) < (n : Int) := by omega
  rcases HD with ⟨rfl, rfl, hip⟩ | ⟨rfl, hip⟩ | ⟨rfl, rfl, k, b2, T2, rfl, hkn, y3, q2, h4, h5, h6⟩
  · have hpb : ((i : Int) == P1) = true := by rw [beq_iff_eq]; exact hip
    clear hip
    go_wp2_with fail
    go_quiet (fail)
    go_wp2_with fail
    apply HKK.out
    exact below_drewN _ _
  · have hpb : ((i : Int) == P1) = false := by rw [beq_eq_false_iff_ne]; exact hip
    clear hip
    go_wp2_with fail
    go_quiet (fail)
    go_wp2_with fail
    apply HKK.out
    exact below_drewN _ _
  · have hkl : (k : Int) < (n : Int) := by omega
    by_cases hT : T1 = T2
    · subst hT
      have hki : ¬ (i : Int) < (k : Int) := fun h => by have := h5 (by omega); omega
      by_cases hik : i = k
      · subst hik
        clear h4 h5 h6 y3 q2
        go_wp2_with fail
        go_quiet (fail)
        go_wp2_with fail
        apply HKK.out
        exact below_drewN _ _
      · have hpb : ((i : Int) == (k : Int)) = false := by rw [beq_eq_false_iff_ne]; omega
        have hki2 : decide ((i : Int) < (k : Int)) = false := decide_eq_false hki
        have hki3 : decide (i < k) = false := decide_eq_false (by omega)
        clear hik h4 h5 h6
        go_wp2_with fail
        go_quiet (fail)
        go_wp2_with fail
        apply HKK.out
        exact below_drewN _ _
    · have hTb : (T1 == T2) = false := by rw [beq_eq_false_iff_ne]; exact hT
      have hlt2 : decide (T1 < T2) = false := decide_eq_false (by omega)
      have hpb : ((i : Int) == (k : Int)) = false := by
        rw [beq_eq_false_iff_ne]
        intro e
        rw [h6 (by omega), q1] at q2
        exact hT q2
      clear h4 h5 h6 hT
      go_wp2_with fail
      go_quiet (fail)
      go_wp2_with fail
      apply HKK.out
      exact below_drewN _ _

end Go.Proofs.Ytdiifnakmemadaa
