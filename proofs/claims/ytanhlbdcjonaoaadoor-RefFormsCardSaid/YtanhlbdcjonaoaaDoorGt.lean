/- What the program's tables hold, as cells. -/
import Derived.Orders
import Derived.Lib.DecodeN
import Derived.Lib.ItoaNum
namespace Go.Proofs.YtanhlbdcjonaoaaDoor.Sx
/-- The tables of the program that are read: of each its cells, kind and number. -/
def gtab : Nat → Option (List (Go.IntKind × Int))
  | 0 => some ((List.range 256).map fun c => (.u8, (Go.Lib.firstT c : Int)))
  | 1 => some ((List.range 32).map fun j => (.u8, ((if j % 2 = 0 then Go.Lib.accLo (j / 2) else Go.Lib.accHi (j / 2) : Nat) : Int)))
  | 2 => some (Go.Lib.pow10Tab.map fun z => (.u64, z))
  | _ => none
/-- Variables that hold an error's value. -/
def gerr : Nat → Bool
  | 4 => true
  | 5 => true
  | _ => false
end Go.Proofs.YtanhlbdcjonaoaaDoor.Sx
