/- Layer 26: the law of all calls: rounds, some pieces pending: what is written, synced, lost. -/
import Derived.Test.YtoekeplljjaehaaDvU
set_option linter.unusedVariables false
set_option linter.unusedSimpArgs false
namespace Go.Proofs.Ytoekeplljjaehaa
open Go Sx
set_option maxRecDepth 100000 in
theorem rMB (L n m : Nat) (R : List (List CV)) (at_ c : Int) (k t : List UInt8) (rows : List (List CV)) (i a : Int) (q : Bool) (s : List UInt8) : code (ent Try.prog (tM1 n m k t rows R i q (dWV false true false n m (lR R i) k t k rows a s)) nolv 64 1 20) Try.prog {} 1 64 1 loopM1 (sM1 L R at_ c n m k t rows i) (endK 1 64 (fun n => hasN [1, 2, 3, 9, 10, 11, 12] n) (fun n => hasN [2, 8, 9] n))
  = roundM1 L n m R k t rows i q (rV n m k t rows at_ c (some (.ret, sMR R at_)) (some (.normal, sM1 L R at_ c n m k t rows (iN i)))) (some (.exit 0, sMX R at_)) := by kernel_rfl
set_option maxRecDepth 100000 in
theorem rMC (L n m : Nat) (R : List (List CV)) (at_ c : Int) (k t : List UInt8) (rows : List (List CV)) (i a : Int) (q : Bool) (s : List UInt8) : code (ent Try.prog (tM1 n m k t rows R i q (dWV true true true n m (lR R i) k t k rows a s)) nolv 64 1 20) Try.prog {} 1 64 1 loopM1 (sM1 L R at_ c n m k t rows i) (endK 1 64 (fun n => hasN [1, 2, 3, 9, 10, 11, 12] n) (fun n => hasN [2, 8, 9] n))
  = roundM1 L n m R k t rows i q (rV n (m + pl a s) k (splice a.toNat s t) (rows ++ pr a s) at_ c (some (.ret, sMR R at_)) (some (.normal, sM1 L R at_ c n (m + pl a s) k (splice a.toNat s t) (rows ++ pr a s) (iN i)))) (some (.exit 0, sMX R at_)) := by kernel_rfl
set_option maxRecDepth 100000 in
theorem rMD (L n m : Nat) (R : List (List CV)) (at_ c : Int) (k t : List UInt8) (rows : List (List CV)) (i : Int) (q : Bool) (p r : List UInt8) : code (ent Try.prog (tM1 n m k t rows R i q (dV false n .nilslice (.vec 8 n) .nilslice (lR R i) p p (.vecR shP rows pT) k (.vecR shP rows qT) [.vecB r 5])) nolv 64 1 20) Try.prog {} 1 64 1 loopM1 (sM1 L R at_ c n m k t rows i) (endK 1 64 (fun n => hasN [1, 2, 3, 9, 10, 11, 12] n) (fun n => hasN [2, 8, 9] n))
  = roundM1 L n m R k t rows i q (rN n p p r at_ c (some (.ret, sMR R at_)) (some (.normal, sM0g L R at_ c n p p r (iN i)))) (some (.exit 0, sMX R at_)) := by kernel_rfl
set_option maxRecDepth 100000 in
theorem rME (L n m : Nat) (R : List (List CV)) (at_ c : Int) (k t : List UInt8) (rows : List (List CV)) (i : Int) (q : Bool) (p : List UInt8) : code (ent Try.prog (tM1 n m k t rows R i q (dV false n .nilslice (.vec 6 n) .nilslice (lR R i) p p (.vecR shP rows pT) k (.vecR shP rows qT) [])) nolv 64 1 20) Try.prog {} 1 64 1 loopM1 (sM1 L R at_ c n m k t rows i) (endK 1 64 (fun n => hasN [1, 2, 3, 9, 10, 11, 12] n) (fun n => hasN [2, 8, 9] n))
  = roundM1 L n m R k t rows i q (rN n p p k at_ c (some (.ret, sMR R at_)) (some (.normal, sM0g L R at_ c n p p k (iN i)))) (some (.exit 0, sMX R at_)) := by kernel_rfl
end Go.Proofs.Ytoekeplljjaehaa
