/- Layer 26: what can't be done changes nothing: the law is what it comes to. -/
import Derived.Test.YtoekeplljjaehaaGr06
namespace Go.Proofs.Ytoekeplljjaehaa
open Go Sx
set_option maxRecDepth 1000000
theorem cErrors (m1 m2 : Bool) (l1 l2 : Nat) (r1 r2 : List (List CV)) (at_ n : Int) : Comes tEr nolv 9 [.dsl 0 l1, .dsl 1 l2, .int .i64 at_, .int .i64 n] [frm m1 r1, frm m2 r2] (xErrors l1 l2 r1 r2 at_ n) := by unfold Comes; kernel_rfl
end Go.Proofs.Ytoekeplljjaehaa
