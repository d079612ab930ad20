/- Layer 26: pieces in any turn: the law is what it comes to. -/
import Derived.Test.YtoekeplljjaehaaGr08
namespace Go.Proofs.Ytoekeplljjaehaa
open Go Sx
set_option maxRecDepth 1000000
def argsE (l1 lk : Nat) (l : List (List UInt8)) : List AV := [.dsl 0 l1, .agg [.str (l.getD 0 []), .str (l.getD 1 []), .str (l.getD 2 []), .str (l.getD 3 []), .str (l.getD 4 [])], .dsl 1 lk]
theorem cE_0 (l1 lk : Nat) (r1 : List (List CV)) (ks : List Int) (l : List (List UInt8)) : Comes (tSe eKp0) (lvSe (some (eEN r1 ks lk l (sT1 r1) (sT1 r1))) none) 6 (argsE l1 lk l) [frm false r1, .flatI false ks] (xE'0 l1 lk r1 ks l) := by unfold Comes; kernel_rfl
theorem cE_E (l1 lk : Nat) (r1 : List (List CV)) (ks : List Int) (l : List (List UInt8)) : Comes (tSe eKpE) (lvSe (some (eEV r1 ks lk l (sT1 r1) (sT1 r1))) none) 6 (argsE l1 lk l) [frm false r1, .flatI false ks] (xE'E l1 lk r1 ks l) := by unfold Comes; kernel_rfl
theorem cE_V (l1 lk : Nat) (r1 : List (List CV)) (ks : List Int) (l : List (List UInt8)) : Comes (tSe eKpV) (lvSe (some (eEV r1 ks lk l (sT1 r1) (sT1 r1))) (some (eGL r1 ks (sT1 r1) (tL r1 l) ((pE l 5 0).map rowOf) (pE l 5 0).length (keepS (pE l 5 0).length ks)))) 6 (argsE l1 lk l) [frm false r1, .flatI false ks] (xE'V l1 lk r1 ks l (keepS (pE l 5 0).length ks)) := by unfold Comes; kernel_rfl
end Go.Proofs.Ytoekeplljjaehaa
