/- Layer 1: powers as they come, by functions that are not looked into. -/
import Derived.Test.YtmgiefeggkikcaaEnE
set_option linter.unusedVariables false
set_option linter.unusedSimpArgs false
namespace Go.Proofs.Ytmgiefeggkikcaa
open Go Sx Dc
def eTrue : Ent := fun args pre => match args, pre with | [], [] => .ret (.bool true) [] | _, _ => .fail
def tabP (PW : Int → Int → Int → Int × Int × Int) (DO : Int → Int → Int × Int) : Tab :=
  (20, e1i fun a b n => R3 (PW a b n)) :: (21, e1i fun a b n => R3 (PW a b n)) :: (18, e1r fun a b => .agg [.int .i64 (DO a b).1, .int .i64 (DO a b).2]) :: (19, ePick) :: (12, eTrue) :: tabF
end Go.Proofs.Ytmgiefeggkikcaa
