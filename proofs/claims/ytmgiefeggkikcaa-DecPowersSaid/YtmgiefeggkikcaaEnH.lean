/- Layer 1: DecPowers is so. -/
import Derived.Test.YtmgiefeggkikcaaEnG
import Derived.Test.YtmgiefeggkikcaaEnB
set_option linter.unusedVariables false
set_option linter.unusedSimpArgs false
namespace Go.Proofs.Ytmgiefeggkikcaa
open Go Sx Dc
theorem tabP_ok : TabOK Try.prog (tabP powR decOfR) := .cons (e1i_ok fun a b n h => power_meets a b n (inI_iff.1 h)) (.cons rpow_ok (.cons decOf_ok (.cons ePick_ok (.cons examples_ok tabF_ok))))
theorem powers_law (am ae n : Int) (h1 : inI am = true) (h2 : inI ae = true) (h3 : inI n = true) : Meets Try.prog 4 [.agg [.int .i64 am, .int .i64 ae], .int .i64 n] [] (.bool true) [] := by
  have := ans_comes tabP_ok (powT_comes powR decOfR am ae n)
  obtain ⟨res, post, k1, k2⟩ := Ans.sound (k := pure2) (r := (.bool true, [])) _ this (by
    have e1 : (inI am && decide ((0 : Int) < 41)) = true := by rw [h1]; rfl
    have p1 := pickR_range (c := n) (n := 203) (by omega)
    have p2 := pickR_range (c := n) (n := 13) (by omega)
    rw [Ans.run, bcT e1]
    exact powT_true powR am ae n _ _ _ _ _ h1 h2 h3 (inI_iff.2 (by rw [i64_in (by omega) (by omega)]; omega)) (inI_iff.2 (by rw [i64_in (by omega) (by omega)]; omega)))
  cases k2; exact k1
end Go.Proofs.Ytmgiefeggkikcaa
