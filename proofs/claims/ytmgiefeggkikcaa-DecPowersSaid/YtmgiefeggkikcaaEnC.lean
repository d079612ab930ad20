/- Layer 1: the document's own products and quotients, as entries. -/
import Derived.Test.YtmgiefeggkikcaaEnA
import Derived.Test.YtmgiefeggkikcaaBrB
set_option linter.unusedVariables false
set_option linter.unusedSimpArgs false
namespace Go.Proofs.Ytmgiefeggkikcaa
open Go Sx Rf Dc Rr

theorem r3_eq (x y z : Int) : R3 (x, y, z) = .tuple [.agg [.int .i64 x, .int .i64 y], .int .i64 z] := rfl
theorem rmul_any (a b c d : Int) : Meets Try.prog 45 [.agg [.int .i64 a, .int .i64 b], .agg [.int .i64 c, .int .i64 d]] [] (R3 (mulR a b c d)) [] := by
  by_cases h : rightB a b = true ∧ rightB c d = true
  · rw [mul_near a b c d h.1 h.2, r3_eq]; exact mul_ok a b c d h.1 h.2
  · unfold mulR; rw [if_neg h, bad3, r3_eq]; exact mul_bad a b c d h
theorem rdiv_any (a b c d : Int) : Meets Try.prog 46 [.agg [.int .i64 a, .int .i64 b], .agg [.int .i64 c, .int .i64 d]] [] (R3 (divR a b c d)) [] := by
  by_cases h : rightB a b = true ∧ rightB c d = true
  · by_cases h0 : c = 0
    · subst h0
      unfold divR; rw [if_pos h, if_pos rfl, r3_eq]; exact Rr.div_zero a b d h.1 h.2
    · rw [div_near a b c d h.1 h.2 h0, r3_eq]; exact div_ok a b c d h.1 h.2 h0
  · unfold divR; rw [if_neg h, bad3, r3_eq]; exact div_bad a b c d h
def tabF : Tab := (45, e2 fun a b c d => R3 (mulR a b c d)) :: (46, e2 fun a b c d => R3 (divR a b c d)) :: (50, e1 fun a b => .bool (rightB a b)) :: tabE
theorem tabF_ok : TabOK Try.prog tabF := .cons (e2_ok rmul_any) (.cons (e2_ok rdiv_any) (.cons (e1_ok rright_meets) tabE_ok))
end Go.Proofs.Ytmgiefeggkikcaa
