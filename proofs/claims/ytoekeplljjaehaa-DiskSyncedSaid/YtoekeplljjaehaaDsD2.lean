/- Layer 26: what was synced stays: the law is what it comes to, where something is pending. -/
import Derived.Test.YtoekeplljjaehaaGr07
namespace Go.Proofs.Ytoekeplljjaehaa
open Go Sx
set_option maxRecDepth 1000000
theorem cS_E (l1 l2 lk : Nat) (r1 r2 : List (List CV)) (ks : List Int) : Comes (tSd eFilV eKpE) (lvSy l2 r1 r2 ks (allS (sT1 r1)) (allS (sT1 r1)) (sT1 r1) (sT1 r1)) 4 [.dsl 0 l1, .dsl 1 l2, .dsl 2 lk] [frm false r1, frm false r2, .flatI false ks] (xSE l1 l2 lk r1 r2 ks ((fillP (r2.take 8)).map rowOf) (fillP (r2.take 8)).length) := by unfold Comes; kernel_rfl
theorem cS_V (l1 l2 lk : Nat) (r1 r2 : List (List CV)) (ks : List Int) : Comes (tSd eFilV eKpV) (lvSy l2 r1 r2 ks (allS (sT1 r1)) (allS (layAll ((fillP (r2.take 8)).map rowOf) (keepS (fillP (r2.take 8)).length ks) (sT1 r1))) (layAll ((fillP (r2.take 8)).map rowOf) (keepS (fillP (r2.take 8)).length ks) (sT1 r1)) (layAll ((fillP (r2.take 8)).map rowOf) (keepS (fillP (r2.take 8)).length ks) (sT1 r1))) 4 [.dsl 0 l1, .dsl 1 l2, .dsl 2 lk] [frm false r1, frm false r2, .flatI false ks] (xSV l1 l2 lk r1 r2 ks ((fillP (r2.take 8)).map rowOf) (fillP (r2.take 8)).length) := by unfold Comes; kernel_rfl
end Go.Proofs.Ytoekeplljjaehaa
