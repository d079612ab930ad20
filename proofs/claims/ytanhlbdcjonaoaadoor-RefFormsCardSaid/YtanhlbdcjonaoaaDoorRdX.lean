/- Layer 2: names as they are written. -/
import Derived.Test.YtanhlbdcjonaoaaDoorRdW
import Derived.Test.YtanhlbdcjonaoaaDoorRdS
set_option linter.unusedVariables false
set_option linter.unusedSimpArgs false
namespace Go.Proofs.YtanhlbdcjonaoaaDoor
open Go Sx
def tabR : Tab := (60, eRepl) :: (47, ePlain) :: tab0
theorem tabR_ok : TabOK Tryd.prog tabR := .cons repl_ok (.cons plain_ok tab0_ok)
end Go.Proofs.YtanhlbdcjonaoaaDoor
