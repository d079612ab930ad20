/- Layer 26: all pieces are kept, or none: the law is what it comes to, where something is pending. -/
import Derived.Test.YtoekeplljjaehaaDkY
namespace Go.Proofs.Ytoekeplljjaehaa
open Go Sx
set_option maxRecDepth 1000000
theorem cNV (m1 m2 : Bool) (l1 l2 : Nat) (r1 r2 : List (List CV)) : Comes (tAn eFilV) (lvN l1 r1 r2 (allS (sT2 r1 r2)) (sT1 r1) (sT2 r1 r2) ((fillP (r2.take 8)).map rowOf) (fillP (r2.take 8)).length) 5 [.dsl 0 l1, .dsl 1 l2] [frm m1 r1, frm m2 r2] (xNV l1 l2 r1 r2 ((fillP (r2.take 8)).map rowOf) (fillP (r2.take 8)).length) := by unfold Comes; kernel_rfl
end Go.Proofs.Ytoekeplljjaehaa
