/-
  The second test of ChooseBest's round, a statement of its own: it doesn't say that a better host stands there. Conditions: the hosts lie where they are said to lie, and what is chosen is the least one.
-/
import Derived.Test.YtdiifnakmemadaaBestA
namespace Go.Proofs.Ytdiifnakmemadaa
open Go.ChangeShapes Go.WideShapes Go.ChangeAt Go.RowKit

set_option maxHeartbeats 2000000 in
set_option maxRecDepth 1000000 in
theorem reg15 (wc : World) (b off n c3' i : Nat) (each P2 A1 : Int) (B2 O : Bool) (hin : i < n) (hnc : n ≤ c3') (hc3 : c3' ≤ 2 ^ 63 - 1)
    (HD : (O = false ∧ B2 = false ∧ (i : Int) = P2) ∨ (O = false ∧ (i : Int) ≠ P2) ∨ (O = true ∧ B2 = true ∧ ∃ (k : Nat) (A2 : Int), (k : Int) = P2 ∧ k < n ∧ (∀ wx, Below wc.heap.size wc wx → Calls Try.prog 16 #[.slice (some ⟨b, off + k * 5, none⟩) 1 (c3' - k)] wx fun e w' => e = .returned (.int .i64 A2) ∧ Below wx.heap.size wx w') ∧ A2 ≤ A1 ∧ (i < k → A2 < A1) ∧ (i = k → A2 = A1)))
    {K : Act → World → Prop} {Q : Exit → Act → World → Prop} {c0 c2 c3 c4 c6 c7 c11 c13 c15 c16 c17 c18 c19 c20 c21 c22 c23 c24 c25 c26 c27 c28 c29 c30 c31 c32 c33 c34 c35 c36 c37 c38 c39 c40 c41 c42 c43 c44 c45 c46 c47 c48 c49 c50 c51 c52 c53 c54 c55 c56 c57 c58 c59 c60 c61 c62 c63 c64 c65 c66 c67 c68 c69 c70 c71 c72 c73 c74 c75 c76 c77 c78 c79 c80 c81 c82 c83 c84 c85 c86 c87 c88 c89 c90 c91 c92 c93 c94 c95 c96 c97 c98 c99 c100 c101 c102 c103 c104 c105 c106 c107 c108 c109 c110 c111 c112 c113 c114 c115 c116 c117 c118 c119 c120 c121 c122 c123 c124 c125 c126 c127 c128 c129 c130 c131 c132 c133 c134 c135 c136 c137 c138 c139 c140 c141 c142 c143 c144 c145 c146 c147 c148 c149 c150 c151 c152 c153 c154 c155 c156 c157 c158 c159 c160 c161 c162 c163 c164 c165 c166 c167 c168 c169 c170 c171 c172 c173 c174 c175 c176 c177 c178 c179 c180 c181 c182 c183 c184 c185 c186 c187 c188 c189 c190 c191 c192 c193 c194 : Value}
    (hK : ∀ (u128 u129 u130 u131 u132 u133 u134 u135 u136 u137 u138 u139 u140 u141 u142 u143 u144 u145 u146 u147 u148 u149 u150 u151 u152 u153 u154 u155 u156 u157 u158 u159 u160 u161 u162 u163 u164 u165 u166 u167 u168 : Value) (wx : World), Below wc.heap.size wc wx → K ⟨#[c0, .int .i64 each, c2, c3, c4, .slice (some ⟨b, off, none⟩) n c3', c6, c7, .int .i64 P2, .bool B2, .int .i64 i, c11, .int .i64 A1, c13, .bool O, c15, c16, c17, c18, c19, c20, c21, c22, c23, c24, c25, c26, c27, c28, c29, c30, c31, c32, c33, c34, c35, c36, c37, c38, c39, c40, c41, c42, c43, c44, c45, c46, c47, c48, c49, c50, c51, c52, c53, c54, c55, c56, c57, c58, c59, c60, c61, c62, c63, c64, c65, c66, c67, c68, c69, c70, c71, c72, c73, c74, c75, c76, c77, c78, c79, c80, c81, c82, c83, c84, c85, c86, c87, c88, c89, c90, c91, c92, c93, c94, c95, c96, c97, c98, c99, c100, c101, c102, c103, c104, c105, c106, c107, c108, c109, c110, c111, c112, c113, c114, c115, c116, c117, c118, c119, c120, c121, c122, c123, c124, c125, c126, c127, u128, u129, u130, u131, u132, u133, u134, u135, u136, u137, u138, u139, u140, u141, u142, u143, u144, u145, u146, u147, u148, u149, u150, u151, u152, u153, u154, u155, u156, u157, u158, u159, u160, u161, u162, u163, u164, u165, u166, u167, u168, .bool false, c170, c171, c172, c173, c174, c175, c176, c177, c178, c179, c180, c181, c182, c183, c184, c185, c186, c187, c188, c189, c190, c191, c192, c193, c194], []⟩ wx) :
    Code.wp Try.prog ((Try.f4.body.bind (regOf 15)).getD .skip) (Exit.then K Q) ⟨#[c0, .int .i64 each, c2, c3, c4, .slice (some ⟨b, off, none⟩) n c3', c6, c7, .int .i64 P2, .bool B2, .int .i64 i, c11, .int .i64 A1, c13, .bool O, c15, c16, c17, c18, c19, c20, c21, c22, c23, c24, c25, c26, c27, c28, c29, c30, c31, c32, c33, c34, c35, c36, c37, c38, c39, c40, c41, c42, c43, c44, c45, c46, c47, c48, c49, c50, c51, c52, c53, c54, c55, c56, c57, c58, c59, c60, c61, c62, c63, c64, c65, c66, c67, c68, c69, c70, c71, c72, c73, c74, c75, c76, c77, c78, c79, c80, c81, c82, c83, c84, c85, c86, c87, c88, c89, c90, c91, c92, c93, c94, c95, c96, c97, c98, c99, c100, c101, c102, c103, c104, c105, c106, c107, c108, c109, c110, c111, c112, c113, c114, c115, c116, c117, c118, c119, c120, c121, c122, c123, c124, c125, c126, c127, c128, c129, c130, c131, c132, c133, c134, c135, c136, c137, c138, c139, c140, c141, c142, c143, c144, c145, c146, c147, c148, c149, c150, c151, c152, c153, c154, c155, c156, c157, c158, c159, c160, c161, c162, c163, c164, c165, c166, c167, c168, c169, c170, c171, c172, c173, c174, c175, c176, c177, c178, c179, c180, c181, c182, c183, c184, c185, c186, c187, c188, c189, c190, c191, c192, c193, c194], []⟩ wc := by
  conv => arg 2; whnf
  have HKK := Hid.mk' hK
  clear hK
  have hinI : (i : Int) < (n : Int) := by omega
  rcases HD with ⟨rfl, rfl, hip⟩ | ⟨rfl, hip⟩ | ⟨rfl, rfl, k, A2, rfl, hkn, hak, h4, h5, h6⟩
  · have hpb : ((i : Int) == P2) = true := by rw [beq_iff_eq]; exact hip
    clear hip
    go_wp2_with fail
    apply HKK.out
    exact Below.refl _ _
  · have hpb : ((i : Int) == P2) = false := by rw [beq_eq_false_iff_ne]; exact hip
    clear hip
    go_wp2_with fail
    apply HKK.out
    exact Below.refl _ _
  · have hkl : (k : Int) < (n : Int) := by omega
    have hkc : k < c3' := by omega
    have HAK : Hid (∀ wx, Below wc.heap.size wc wx → Calls Try.prog 16 #[.slice (some ⟨b, off + k * 5, none⟩) 1 (c3' - k)] wx fun e w' => e = .returned (.int .i64 A2) ∧ Below wx.heap.size wx w') := hak
    have hbc : Below wc.heap.size wc wc := Below.refl _ _
    clear hak
    by_cases hT : A1 = A2
    · subst hT
      have hki : ¬ (i : Int) < (k : Int) := fun h => by have := h5 (by omega); omega
      by_cases hik : i = k
      · subst hik
        clear h4 h5 h6
        go_wp2_with (first
          | (go_at_call 16; refine (HAK.out _ hbc).mono ?_; rintro e w8 ⟨rfl, hb8⟩)
          | (go_at_call 16; refine (HAK.out _ hb8).mono ?_; rintro e w9 ⟨rfl, hb9⟩; have hb89 := below_trans hb8 hb9))
        apply HKK.out
        exact hb89
      · have hpb : ((i : Int) == (k : Int)) = false := by rw [beq_eq_false_iff_ne]; omega
        have hki2 : decide ((i : Int) < (k : Int)) = false := decide_eq_false hki
        have hki3 : decide (i < k) = false := decide_eq_false (by omega)
        clear hik h4 h5 h6
        go_wp2_with (first
          | (go_at_call 16; refine (HAK.out _ hbc).mono ?_; rintro e w8 ⟨rfl, hb8⟩)
          | (go_at_call 16; refine (HAK.out _ hb8).mono ?_; rintro e w9 ⟨rfl, hb9⟩; have hb89 := below_trans hb8 hb9))
        apply HKK.out
        exact hb89
    · have hTb : (A1 == A2) = false := by rw [beq_eq_false_iff_ne]; exact hT
      have hlt2 : decide (A1 < A2) = false := decide_eq_false (by omega)
      have hpb : ((i : Int) == (k : Int)) = false := by
        rw [beq_eq_false_iff_ne]
        intro e
        exact hT (h6 (by omega)).symm
      clear h4 h5 h6 hT
      go_wp2_with (first
        | (go_at_call 16; refine (HAK.out _ hbc).mono ?_; rintro e w8 ⟨rfl, hb8⟩)
        | (go_at_call 16; refine (HAK.out _ hb8).mono ?_; rintro e w9 ⟨rfl, hb9⟩; have hb89 := below_trans hb8 hb9))
      apply HKK.out
      exact hb89

end Go.Proofs.Ytdiifnakmemadaa
