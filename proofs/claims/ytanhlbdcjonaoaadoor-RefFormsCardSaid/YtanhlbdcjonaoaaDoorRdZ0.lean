/- Layer 2: references as texts. -/
import Derived.Test.YtanhlbdcjonaoaaDoorRdY
import Derived.Test.YtanhlbdcjonaoaaDoorRdU
set_option linter.unusedVariables false
set_option linter.unusedSimpArgs false
namespace Go.Proofs.YtanhlbdcjonaoaaDoor
open Go Sx
def eStrC (W : List UInt8 → List UInt8) : Ent := fun args pre => match args, pre with
  | [.str l], [] => .chk (decide (l.length ≤ 1000000)) (.ret (.str (W l)) [])
  | _, _ => .fail
def tabT (W : List UInt8 → List UInt8) : Tab := (27, eStrC W) :: (26, eWS) :: (28, eWB) :: (31, eBS) :: tabM
theorem tabT_ok : TabOK Tryd.prog (tabT wriS) := .cons written_ok (.cons ws_ok (.cons wb_ok (.cons bs_ok tabM_ok)))
end Go.Proofs.YtanhlbdcjonaoaaDoor
