/- Layer 2, the law in parts: its seventh statement, columns. -/
import Derived.Test.YtanhlbdcjonaoaaGreatDoorGr17
set_option linter.unusedVariables false
set_option linter.unusedSimpArgs false
namespace Go.Proofs.YtanhlbdcjonaoaaGreatDoor
open Go Sx
def oneCX (x : LawF) (m : Int) (nx : OX) : OX := ckX (x.okc m) (ckX (x.okc m) (bcond (!(x.C m == x.C m)) retL (bcond (x.E m != x.E m) retL nx)))
theorem partB (x : LawF) (X Y : Rf) (a b : Ar) (p0 p1 p2 n m q : Int) :
    runsC (ent (R := Ex × PState) Tryz.prog (tabLw x) nolv 64 18446744073709551616 30) Tryz.prog {} 0 64 18446744073709551616 (endK 0 64 keepL keepR) 1 (restC 6 (bodyOf Tryz.f3)) (stL X Y a b p0 p1 p2 n m q) =
  ckX (x.okp n 60) (oneCX x n (oneCX x (w64 (x.p n 60 - 4)) (some (.normal, stL X Y a b p0 p1 p2 n m q)))) := by kernel_rfl
end Go.Proofs.YtanhlbdcjonaoaaGreatDoor
