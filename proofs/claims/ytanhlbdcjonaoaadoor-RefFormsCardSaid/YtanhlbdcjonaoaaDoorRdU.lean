/- Layer 2: the pieces of texts together. -/
import Derived.Test.YtanhlbdcjonaoaaDoorRdT
import Derived.Test.YtanhlbdcjonaoaaDoorRdL
import Derived.Test.YtanhlbdcjonaoaaDoorRbE
set_option linter.unusedVariables false
set_option linter.unusedSimpArgs false
namespace Go.Proofs.YtanhlbdcjonaoaaDoor
open Go Sx

def tabM : Tab := (17, eColumn) :: (18, eReadColumn) :: (30, eItoa) :: (36, eTrim) :: (47, ePlain) :: (37, eRune letB) :: (39, eRune digB) :: tab12
theorem tabM_ok : TabOK Tryd.prog tabM := .cons column_ok (.cons readColumn_ok (.cons itoa_ok (.cons trim_ok (.cons plain_ok (.cons letter_ok (.cons digit_ok tab12_ok))))))
/-- A text out of a text, by a function that is not looked into. -/
def eStr (W : List UInt8 → List UInt8) : Ent := fun args pre => match args, pre with
  | [.str l], [] => .ret (.str (W l)) []
  | _, _ => .fail
def tabW (W : List UInt8 → List UInt8) : Tab := (27, eStr W) :: tabM
end Go.Proofs.YtanhlbdcjonaoaaDoor
