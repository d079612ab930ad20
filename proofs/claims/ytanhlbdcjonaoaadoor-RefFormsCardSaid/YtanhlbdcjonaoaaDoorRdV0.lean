/- Layer 2: apostrophes that are doubled. -/
import Derived.Test.YtanhlbdcjonaoaaDoorRbA
import Derived.Test.YtanhlbdcjonaoaaDoorPx1
import Derived.Lib.IndexLaws
set_option linter.unusedVariables false
set_option linter.unusedSimpArgs false
namespace Go.Proofs.YtanhlbdcjonaoaaDoor
open Go Sx

def ixQ (l : List UInt8) : Int := Lib.indexByte l 39
def eIndexQ : Ent := fun args pre => match args, pre with
  | [.str l, .str [39]], [] => .ret (.int .i64 (ixQ l)) []
  | _, _ => .fail
theorem indexQ_ok : EntOK Tryd.prog 69 eIndexQ := fun args pre => by
  unfold eIndexQ
  split
  · rename_i l
    have e : Comes tab0 nolv 69 [.str l, .str [39]] [] (.br ([39] == l) (.ret (.int .i64 0) []) (.ret (.int .i64 (ixQ l)) [])) := by unfold Comes; kernel_rfl
    refine of_run (ans_comes tab0_ok e) fun x h => ?_
    rw [← h]
    simp only [Ans.run]
    cases hl : ([39] == l) with
    | false => rfl
    | true =>
      have : l = [39] := (beq_iff_eq.1 hl).symm
      subst this; rfl
  · trivial
def tabQ : Tab := (69, eIndexQ) :: tab0
theorem tabQ_ok : TabOK Tryd.prog tabQ := .cons indexQ_ok tab0_ok
def st60 (l acc : List UInt8) (m : Nat) (p n i : Int) : PState :=
  ⟨some (.str l) :: some (.str [39]) :: some (.str [39, 39]) :: (List.replicate 5 none ++ some (.str []) :: none :: some (.ptr 0 0) :: some (.int .i64 p) :: (List.replicate 40 none ++ some (.int .i64 n) :: some (.int .i64 i) :: List.replicate 50 none)),
   some (.raw (.cells [.ptr 0 0, .vec 1 m] 60)) :: some (.vecB acc 5) :: List.replicate 64 none⟩
def fin60 (l acc : List UInt8) (m : Nat) (p : Int) : PState :=
  ⟨some (.str l) :: (List.replicate 7 none ++ some (.str []) :: none :: some (.ptr 0 0) :: some (.int .i64 p) :: List.replicate 92 none),
   some (.raw (.cells [.ptr 0 0, .vec 1 m] 60)) :: some (.vecB acc 5) :: List.replicate 64 none⟩
/-- Is there room for so much more? -/
def roomB (acc : List UInt8) (m k : Nat) : Bool := true && decide ((PObj.vecB acc 5).len = m * 1) && decide (2 * (m + k) * 1 ≤ 281474976710656 ∧ 2 * (m + k) < 9223372036854775808)
def jQ (l : List UInt8) (p : Int) : Int := IntKind.i64.wrap (p + ixQ (List.take (l.length - p.toNat) (List.drop p.toNat l)))
def pcQ (l : List UInt8) (p : Int) : List UInt8 := List.take ((jQ l p).toNat - p.toNat) (List.drop p.toNat l)
theorem round60 (l acc : List UInt8) (m : Nat) (p n i : Int) : code (ent (R := Ex × PState) Tryd.prog tabQ nolv 64 18446744073709551616 30) Tryd.prog {} 0 64 18446744073709551616 ((loopBodies (bodyOf Tryd.f60)).headD .skip) (st60 l acc m p n i) (endK 0 64 (fun n => hasN [0, 1, 2, 8, 10, 11, 52, 53] n) (fun n => hasN [0, 8, 10, 11] n)) =
    bcond (decide (i < n)) (bcond (decide (0 ≤ p ∧ p.toNat ≤ l.length)) (bcond (decide (0 ≤ p ∧ 0 ≤ jQ l p ∧ p.toNat ≤ (jQ l p).toNat ∧ (jQ l p).toNat ≤ l.length)) (bcond (roomB acc m (pcQ l p).length) (bcond (roomB (acc ++ pcQ l p) (m + (pcQ l p).length) 2)
      (some (.normal, st60 l (acc ++ pcQ l p ++ [39, 39]) (m + (pcQ l p).length + 2) (IntKind.i64.wrap (jQ l p + 1)) n (IntKind.i64.wrap (i + 1)))) none) none) none) none) (some (.exit 0, fin60 l acc m p)) := by kernel_rfl
end Go.Proofs.YtanhlbdcjonaoaaDoor
