/- Layer 26: the law of all calls: a round, nothing pending. -/
import Derived.Test.YtoekeplljjaehaaGr13
set_option linter.unusedVariables false
set_option linter.unusedSimpArgs false
namespace Go.Proofs.Ytoekeplljjaehaa
open Go Sx
noncomputable abbrev loopM1 : Code := (loopBodies (bodyOf Try.f3)).headD .skip
def slM0 (L : Nat) (at_ c i : Int) : List (Option AV) := none :: some (.dsl 0 L) :: some (.int .i64 at_) :: some (.int .i64 c) :: none :: none :: none :: none :: none :: some (.bool true) :: some (.ptr 1 0) :: some (.ptr 2 0) :: some (.int .i64 i) :: List.replicate 133 none
def sM0 (L : Nat) (R : List (List CV)) (at_ c : Int) (n : Nat) (k : List UInt8) (i : Int) : PState :=
  ⟨slM0 L at_ c i, some (.raw (.flatN shN R)) :: some (.raw (.cells [.slice 3 0 n n, .slice 4 0 n n, .nilslice] dT)) :: some (.raw (.cells [.vec 5 n, .nilslice] rT)) :: some (.arrB k 5) :: some (.arrB k 5) :: some (.vecB k 5) :: List.replicate 64 none⟩
def sM1 (L : Nat) (R : List (List CV)) (at_ c : Int) (n m : Nat) (k t : List UInt8) (rows : List (List CV)) (i : Int) : PState :=
  ⟨slM0 L at_ c i, some (.raw (.flatN shN R)) :: some (.raw (.cells [.slice 3 0 n n, .slice 4 0 n n, .vec 5 m] dT)) :: some (.raw (.cells [.vec 6 n, .vec 7 m] rT)) :: some (.arrB k 5) :: some (.arrB t 5) :: some (.vecR shP rows pT) :: some (.vecB k 5) :: some (.vecR shP rows qT) :: List.replicate 64 none⟩
def sMX (R : List (List CV)) (at_ : Int) : PState := ⟨none :: none :: some (.int .i64 at_) :: none :: none :: none :: none :: none :: none :: some (.bool true) :: List.replicate 136 none, some (.raw (.flatN shN R)) :: List.replicate 64 none⟩
def sMR (R : List (List CV)) (at_ : Int) : PState := ⟨none :: none :: some (.int .i64 at_) :: none :: none :: none :: none :: none :: some (.bool false) :: some (.bool true) :: List.replicate 136 none, some (.raw (.flatN shN R)) :: List.replicate 64 none⟩
def rdT {α : Type} (n : Nat) (k : List UInt8) (at_ c : Int) (κ : List UInt8 → Int → Option α) : Option α := bcond (decide (0 ≤ c) && inD n at_ c.toNat) (κ ((k.drop at_.toNat).take c.toNat) 0) (κ [] 260)
def restM {α : Type} (n : Nat) (t u : List UInt8) (cp cr : List Bool) (at_ c : Int) (ret nx : Option α) : Option α :=
  chks (rdT n t at_ c fun s e => chks (rdT n u at_ c fun s' e' => chks (rdT n u 0 n fun w _ => bcond (!(s == s')) ret (bcond (!(e == e')) ret (chks (rdT n t 0 n fun w' _ => bcond (!(w' == w)) ret nx) (cp ++ [i64B 0, i64B n])))) (cr ++ [i64B 0, i64B n])) (cr ++ [i64B at_, i64B c])) (cp ++ [i64B at_, i64B c])
def kdR (R : List (List CV)) (i : Int) : Int := (rowCV (Sx.rowAt R i.toNat) 0).n
def aR (R : List (List CV)) (i : Int) : Int := (rowCV (Sx.rowAt R i.toNat) 1).n
def sR (R : List (List CV)) (i : Int) : List UInt8 := (rowCV (Sx.rowAt R i.toNat) 2).s
def lR (R : List (List CV)) (i : Int) : List Int := kidsOf (rowCV (Sx.rowAt R i.toNat) 3)
noncomputable def tM0 (n : Nat) (k : List UInt8) (R : List (List CV)) (i : Int) : Tab := [(12, eDo0 false n (lR R i).length (lR R i) k (kdR R i) (aR R i) (sR R i)), (13, eRead), (14, eRRd)]
noncomputable def roundM0 {α : Type} (L n : Nat) (R : List (List CV)) (at_ c : Int) (k : List UInt8) (i : Int) (ret n0 : Option α) (n1 : Nat → List UInt8 → List (List CV) → Option α) (ex : Option α) : Option α :=
  bcond (decide (i < (L : Int))) (bcond (decide (i < 20)) (chks (chks (bcond (wrQ n (kdR R i) (aR R i) (sR R i))
      (restM n (splice (aW n (kdR R i) (aR R i)).toNat (sW n (kdR R i) (aR R i) (sR R i)) k) (layR (pr (aW n (kdR R i) (aR R i)) (sW n (kdR R i) (aR R i) (sR R i))) k)
        [lD n, smN n k (splice (aW n (kdR R i) (aR R i)).toNat (sW n (kdR R i) (aR R i) (sR R i)) k), rwB (pl (aW n (kdR R i) (aR R i)) (sW n (kdR R i) (aR R i) (sR R i))) (pr (aW n (kdR R i) (aR R i)) (sW n (kdR R i) (aR R i) (sR R i)))] [askT n (pl (aW n (kdR R i) (aR R i)) (sW n (kdR R i) (aR R i) (sR R i))) k (pr (aW n (kdR R i) (aR R i)) (sW n (kdR R i) (aR R i) (sR R i)))] at_ c ret
        (bcond ((pl (aW n (kdR R i) (aR R i)) (sW n (kdR R i) (aR R i) (sR R i)) : Int) != (pl (aW n (kdR R i) (aR R i)) (sW n (kdR R i) (aR R i) (sR R i)) : Int)) ret (bcond ((n : Int) != (n : Int)) ret (n1 (pl (aW n (kdR R i) (aR R i)) (sW n (kdR R i) (aR R i) (sR R i))) (splice (aW n (kdR R i) (aR R i)).toNat (sW n (kdR R i) (aR R i) (sR R i)) k) (pr (aW n (kdR R i) (aR R i)) (sW n (kdR R i) (aR R i) (sR R i)))))))
      (restM n k k [lD n, smN n k k] [ask0 n k] at_ c ret (bcond ((n : Int) != (n : Int)) ret n0)))
    [eqAs (argsDo (lR R i).length (kdR R i) (aR R i) (sR R i)) (argsDo (lR R i).length (kdR R i) (aR R i) (sR R i)), eqPs (d0 false n (lR R i) k k k) (d0 false n (lR R i) k k k), ask0D n (lR R i).length (lR R i) k (aR R i)]) [bF i L, decide (i.toNat < R.length) && true && true]) ex) ex
set_option maxRecDepth 100000 in
theorem rM0 (L n : Nat) (R : List (List CV)) (at_ c : Int) (k : List UInt8) (i : Int) : code (ent Try.prog (tM0 n k R i) nolv 64 1 20) Try.prog {} 1 64 1 loopM1 (sM0 L R at_ c n k i) (endK 1 64 (fun n => hasN [1, 2, 3, 9, 10, 11, 12] n) (fun n => hasN [2, 8, 9] n))
  = roundM0 L n R at_ c k i (some (.ret, sMR R at_)) (some (.normal, sM0 L R at_ c n k (iN i))) (fun m t rows => some (.normal, sM1 L R at_ c n m k t rows (iN i))) (some (.exit 0, sMX R at_)) := by kernel_rfl
end Go.Proofs.Ytoekeplljjaehaa
