/- Layer 26: what is written is read: the law is what it comes to. -/
import Derived.Test.YtoekeplljjaehaaGr06
namespace Go.Proofs.Ytoekeplljjaehaa
open Go Sx
set_option maxRecDepth 1000000
theorem cReads (m1 : Bool) (l1 : Nat) (r1 : List (List CV)) (at_ : Int) (s : List UInt8) (n : Int) : Comes tLw nolv 8 [.dsl 0 l1, .int .i64 at_, .str s, .int .i64 n] [frm m1 r1] (xReads l1 r1 at_ s n) := by unfold Comes; kernel_rfl
end Go.Proofs.Ytoekeplljjaehaa
