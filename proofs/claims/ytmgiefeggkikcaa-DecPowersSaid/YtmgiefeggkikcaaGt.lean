/- What the program's tables hold, as cells. -/
import Derived.Orders
namespace Go.Proofs.Ytmgiefeggkikcaa.Sx
/-- The tables of the program that are read: of each its cells, kind and number. -/
def gtab : Nat → Option (List (IntKind × Int)) := fun _ => none
end Go.Proofs.Ytmgiefeggkikcaa.Sx
