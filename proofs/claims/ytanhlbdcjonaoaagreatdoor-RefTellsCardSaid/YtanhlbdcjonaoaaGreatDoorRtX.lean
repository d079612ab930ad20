/- Layer 2, the law in parts: its eighth statement, references. -/
import Derived.Test.YtanhlbdcjonaoaaGreatDoorGr17
set_option linter.unusedVariables false
set_option linter.unusedSimpArgs false
namespace Go.Proofs.YtanhlbdcjonaoaaGreatDoor
open Go Sx
def oneMX (x : LawF) (r : Rf) (m n : Int) (nx : OX) : OX := ckX (x.okV r m n) (ckX (x.okV r m n) (bcond (!(sameR (x.V r m n) (x.V r m n))) retL (bcond (x.v r m n != x.v r m n) retL nx)))
def oneAX (x : LawF) (r q : Rf) (n : Int) (nx : OX) : OX := ckX (x.okp n 9) (ckX (x.okA r q) (ckX (x.okp n 9) (ckX (x.okA r q) (bcond (!(sameA (x.A r q (x.p n 9)) (x.A r q (x.p n 9)))) retL (bcond (x.e r q (x.p n 9) != x.e r q (x.p n 9)) retL nx)))))
def oneFX (x : LawF) (r Y : Rf) (n m q : Int) (nx : OX) : OX :=
  ckX (x.okW r) (ckX (x.okW r) (ckX (x.okW r) (ckX (x.okW r) (bcond (!(x.B r == x.B r)) retL (bcond (!(x.W r == x.W r)) retL (bcond (x.w r != x.w r) retL
    (ckX (x.okp m 21) (ckX (x.okp q 21) (oneMX x r m q (oneMX x r (w64 (x.p m 21 - 10)) (w64 (x.p q 21 - 10)) (ckX (x.okF Y) (oneAX x r Y n (oneAX x r (x.F Y) n nx)))))))))))))
theorem partC (x : LawF) (X Y : Rf) (a b : Ar) (p0 p1 p2 n m q : Int) :
    runsC (ent (R := Ex × PState) Tryz.prog (tabLw x) nolv 64 18446744073709551616 30) Tryz.prog {} 0 64 18446744073709551616 (endK 0 64 keepL keepR) 1 (restC 7 (bodyOf Tryz.f3)) (stL X Y a b p0 p1 p2 n m q) =
  ckX (x.okF X) (oneFX x X Y n m q (oneFX x (x.F X) Y n m q (some (.normal, stL X Y a b p0 p1 p2 n m q)))) := by kernel_rfl
end Go.Proofs.YtanhlbdcjonaoaaGreatDoor
