/- Layer 26: the law of all calls: a round, some pieces pending. -/
import Derived.Test.YtoekeplljjaehaaDvT
set_option linter.unusedVariables false
set_option linter.unusedSimpArgs false
namespace Go.Proofs.Ytoekeplljjaehaa
open Go Sx
def sM0g (L : Nat) (R : List (List CV)) (at_ c : Int) (n : Nat) (k t K : List UInt8) (i : Int) : PState :=
  ⟨slM0 L at_ c i, some (.raw (.flatN shN R)) :: some (.raw (.cells [.slice 3 0 n n, .slice 4 0 n n, .nilslice] dT)) :: some (.raw (.cells [.vec 5 n, .nilslice] rT)) :: some (.arrB k 5) :: some (.arrB t 5) :: some (.vecB K 5) :: List.replicate 64 none⟩
/-- A call, told to leave so and so. -/
noncomputable def eDoQ (b : Bool) (n m len : Nat) (l : List Int) (k t : List UInt8) (rows : List (List CV)) (kd a : Int) (s : List UInt8) (q : Bool) (ms : List PObj) : Ent := fun args pre =>
  .chk (eqAs args (argsDo len kd a s)) (.chk (eqPs pre (d1 b n m l k t k rows)) (.chk q (.ret (.bool true) ms)))
noncomputable def tM1 (n m : Nat) (k t : List UInt8) (rows R : List (List CV)) (i : Int) (q : Bool) (ms : List PObj) : Tab := [(12, eDoQ false n m (lR R i).length (lR R i) k t rows (kdR R i) (aR R i) (sR R i) q ms), (13, eRead), (14, eRRd)]
def rV {α : Type} (n m : Nat) (k t : List UInt8) (rows : List (List CV)) (at_ c : Int) (ret nx : Option α) : Option α :=
  restM n t (layR rows k) [lD n, smN n k t, rwB m rows] [askT n m k rows] at_ c ret (bcond ((m : Int) != (m : Int)) ret (bcond ((n : Int) != (n : Int)) ret nx))
def rN {α : Type} (n : Nat) (k t K : List UInt8) (at_ c : Int) (ret nx : Option α) : Option α :=
  restM n t K [lD n, smN n k t] [ask0 n K] at_ c ret (bcond ((n : Int) != (n : Int)) ret nx)
noncomputable def roundM1 {α : Type} (L n m : Nat) (R : List (List CV)) (k t : List UInt8) (rows : List (List CV)) (i : Int) (q : Bool) (x ex : Option α) : Option α :=
  bcond (decide (i < (L : Int))) (bcond (decide (i < 20)) (chks (chks x [eqAs (argsDo (lR R i).length (kdR R i) (aR R i) (sR R i)) (argsDo (lR R i).length (kdR R i) (aR R i) (sR R i)), eqPs (d1 false n m (lR R i) k t k rows) (d1 false n m (lR R i) k t k rows), q]) [bF i L, decide (i.toNat < R.length) && true && true]) ex) ex
set_option maxRecDepth 100000 in
theorem rMA (L n m : Nat) (R : List (List CV)) (at_ c : Int) (k t : List UInt8) (rows : List (List CV)) (i : Int) (q : Bool) : code (ent Try.prog (tM1 n m k t rows R i q (d1 false n m (lR R i) k t k rows)) nolv 64 1 20) Try.prog {} 1 64 1 loopM1 (sM1 L R at_ c n m k t rows i) (endK 1 64 (fun n => hasN [1, 2, 3, 9, 10, 11, 12] n) (fun n => hasN [2, 8, 9] n))
  = roundM1 L n m R k t rows i q (rV n m k t rows at_ c (some (.ret, sMR R at_)) (some (.normal, sM1 L R at_ c n m k t rows (iN i)))) (some (.exit 0, sMX R at_)) := by kernel_rfl
end Go.Proofs.Ytoekeplljjaehaa
