/- Layer 2: references as they come, by a function that is not looked into. -/
import Derived.Test.YtanhlbdcjonaoaaDoorRdJ
set_option linter.unusedVariables false
namespace Go.Proofs.YtanhlbdcjonaoaaDoor
open Go Sx

def entRef (F : Rf → Rf) : Ent := fun args pre => match args, pre with
  | [.agg [.str s, .int .i64 r, .int .i64 c, .bool a, .bool b, .bool d]], [] => .chk (inI r && inI c && decide (s.length ≤ 9223372036854775807)) (.ret (F ⟨s, r, c, a, b, d⟩).v [])
  | _, _ => .fail
def tabF (F : Rf → Rf) : Tab := (11, entRef F) :: tab11
theorem tabF_ok : TabOK Tryd.prog (tabF refS) := .cons refOf_ok tab11_ok

end Go.Proofs.YtanhlbdcjonaoaaDoor
