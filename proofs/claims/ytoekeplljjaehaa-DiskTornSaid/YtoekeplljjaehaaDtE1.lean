/- Layer 26: pieces that are torn: the law is what it comes to. -/
import Derived.Test.YtoekeplljjaehaaGr07
namespace Go.Proofs.Ytoekeplljjaehaa
open Go Sx
set_option maxRecDepth 1000000
theorem cT_0 (l1 lk : Nat) (r1 : List (List CV)) (ks : List Int) (at_ : Int) (s : List UInt8) : Comes (tTo eWrN ePa0 eKp0) nolv 7 [.dsl 0 l1, .int .i64 at_, .str s, .dsl 1 lk] [frm false r1, .flatI false ks] (xT0 l1 r1 ks at_ s) := by unfold Comes; kernel_rfl
theorem cT_E (l1 lk : Nat) (r1 : List (List CV)) (ks : List Int) (at_ : Int) (s : List UInt8) : Comes (tTo eWrV ePaV eKpE) (lvTE r1 ks (allS (sT1 r1)) (allS (sT1 r1)) ((pTs at_ s).map rowOf) (pTs at_ s).length) 7 [.dsl 0 l1, .int .i64 at_, .str s, .dsl 1 lk] [frm false r1, .flatI false ks] (xTE l1 lk r1 ks at_ s) := by unfold Comes; kernel_rfl
theorem cT_V (l1 lk : Nat) (r1 : List (List CV)) (ks : List Int) (at_ : Int) (s : List UInt8) : Comes (tTo eWrV ePaV eKpV) (lvTV r1 ks (allS (sT1 r1)) (allS (kT r1 ks at_ s)) ((pTs at_ s).map rowOf) (pTs at_ s).length (keepS (pTs at_ s).length ks) (keepS (pTs at_ s).length ks).length) 7 [.dsl 0 l1, .int .i64 at_, .str s, .dsl 1 lk] [frm false r1, .flatI false ks] (xTV l1 lk r1 ks at_ s) := by unfold Comes; kernel_rfl
end Go.Proofs.Ytoekeplljjaehaa
