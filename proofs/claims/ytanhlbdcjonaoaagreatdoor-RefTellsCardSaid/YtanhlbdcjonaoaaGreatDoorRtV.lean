/- Layer 2, the law in parts: its first six statements. -/
import Derived.Test.YtanhlbdcjonaoaaGreatDoorGr17
set_option linter.unusedVariables false
set_option linter.unusedSimpArgs false
namespace Go.Proofs.YtanhlbdcjonaoaaGreatDoor
open Go Sx
theorem partA (x : LawF) (X Y : Rf) (a b : Ar) (p0 p1 p2 : Int) (s : List UInt8) (n m q : Int) :
    runsC (ent (R := Ex × PState) Tryz.prog (tabLw x) nolv 64 18446744073709551616 30) Tryz.prog {} 0 64 18446744073709551616 (endK 0 64 keepL keepR) 6 (bodyOf Tryz.f3) (startP 317 (argsL X Y a b p0 p1 p2 s n m q) [] 64) =
  ckX (cutB (a60 s) s) (ckX (x.okF X) (ckX (x.okW (x.F X)) (ckX (x.okp n (w64 (((x.W (x.F X)).length : Int) + 1))) (preX x s (x.W (x.F X)) (x.p n (w64 (((x.W (x.F X)).length : Int) + 1))) (txtsX x s (x.W (x.F X)) (x.p n (w64 (((x.W (x.F X)).length : Int) + 1))) (some (.normal, stL X Y a b p0 p1 p2 n m q))))))) := by kernel_rfl
end Go.Proofs.YtanhlbdcjonaoaaGreatDoor
