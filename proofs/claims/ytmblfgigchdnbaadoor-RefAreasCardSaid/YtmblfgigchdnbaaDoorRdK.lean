/- Layer 2: RefAreas is so. -/
import Derived.Test.YtmblfgigchdnbaaDoorRdL
import Derived.Test.YtmblfgigchdnbaaDoorPx1
set_option linter.unusedVariables false
set_option linter.unusedSimpArgs false
namespace Go.Proofs.YtmblfgigchdnbaaDoor
open Go Sx

def plainR (X : Rf) : Rf := ⟨[], X.r, X.c, false, false, false⟩
def stA (X Y : Rf) (m R C : Int) : PState :=
  ⟨List.replicate 6 none ++ (some (.bool false) :: some (.bool true) :: some (.ptr 0 0) :: some (.ptr 1 0) :: some (.int .i64 m) :: some (.ptr 2 0) :: some (.int .i64 (erA X Y m)) :: some (.ptr 3 0) :: some (.int .i64 (erA Y X m)) :: none :: some (.ptr 4 0) :: some (.int .i64 (erA (plainR X) Y m)) :: some (.int .i64 R) :: some (.int .i64 C) :: List.replicate 140 none),
   some (.raw (.cells [.str X.s, .int .i64 X.r, .int .i64 X.c, .bool X.a, .bool X.b, .bool X.d] 23)) :: some (.raw (.cells [.str Y.s, .int .i64 Y.r, .int .i64 Y.c, .bool Y.a, .bool Y.b, .bool Y.d] 23)) ::
   some (.raw (.cells [.int .i64 (arA X Y m).s, .int .i64 (arA X Y m).r, .int .i64 (arA X Y m).c, .int .i64 (arA X Y m).h, .int .i64 (arA X Y m).w] 45)) ::
   some (.raw (.cells [.int .i64 (arA Y X m).s, .int .i64 (arA Y X m).r, .int .i64 (arA Y X m).c, .int .i64 (arA Y X m).h, .int .i64 (arA Y X m).w] 45)) ::
   some (.raw (.cells [.int .i64 (arA (plainR X) Y m).s, .int .i64 (arA (plainR X) Y m).r, .int .i64 (arA (plainR X) Y m).c, .int .i64 (arA (plainR X) Y m).h, .int .i64 (arA (plainR X) Y m).w] 45)) :: List.replicate 64 none⟩
def finA8 (b : Bool) : PState := ⟨List.replicate 6 none ++ (some (.bool b) :: List.replicate 153 none), List.replicate 64 none⟩
def goneT (X Y : Rf) (m : Int) : Option (Ex × PState) :=
  bcond (erA X Y m == 20) (bcond (erA Y X m == 20) (some (.ret, finA8 ((arA X Y m).s == 0 && ((arA X Y m).r == 0 && ((arA X Y m).c == 0 && ((arA X Y m).h == 0 && ((arA X Y m).w == 0 && true))))))) (some (.ret, finA8 false))) (some (.ret, finA8 false))
def wr (a : Int) : Int := IntKind.i64.wrap a
def firT (X Y : Rf) (m : Int) : Option (Ex × PState) :=
  bcond X.d (goneT X Y m) (bcond Y.d (goneT X Y m)
    (bcond (decide (wr (X.r - Y.r) < 0)) (bcond (decide (wr (X.c - Y.c) < 0)) (some (.normal, stA X Y m (wr (0 - wr (X.r - Y.r))) (wr (0 - wr (X.c - Y.c))))) (some (.normal, stA X Y m (wr (0 - wr (X.r - Y.r))) (wr (X.c - Y.c)))))
      (bcond (decide (wr (X.c - Y.c) < 0)) (some (.normal, stA X Y m (wr (X.r - Y.r)) (wr (0 - wr (X.c - Y.c))))) (some (.normal, stA X Y m (wr (X.r - Y.r)) (wr (X.c - Y.c)))))))
abbrev slots8 : Nat → Bool := fun n => hasN [6,7,8,9,10,11,12,13,14,16,17,18,19] n
abbrev res8 : Nat → Bool := fun n => hasN [6] n
theorem area_first (F : Rf → Rf) (s s2 : List UInt8) (r c r2 c2 n : Int) (a b d a2 b2 d2 : Bool) :
    runsC (ent (R := Ex × PState) Tryd.prog (tabF F) nolv 64 18446744073709551616 30) Tryd.prog (nolv 8) 0 64 18446744073709551616 (endK 0 64 slots8 res8) 14 (bodyOf Tryd.f8) (startP Tryd.f8.ntmps [.agg [.str s, .int .i64 r, .int .i64 c, .bool a, .bool b, .bool d], .agg [.str s2, .int .i64 r2, .int .i64 c2, .bool a2, .bool b2, .bool d2], .int .i64 n] [] 64) =
    bcond (inI r && inI c && decide (s.length ≤ 9223372036854775807)) (bcond (inI r2 && inI c2 && decide (s2.length ≤ 9223372036854775807)) (bcond (inI n && decide ((0 : Int) < 8)) (firT (F ⟨s, r, c, a, b, d⟩) (F ⟨s2, r2, c2, a2, b2, d2⟩) (pickS n 8)) none) none) none := by kernel_rfl
def arT (X Y : Rf) (m R C : Int) : Ans :=
  .br (erA X Y m == 0)
   (.br (erA Y X m == 0)
   (.br (erA (plainR X) Y m == 0)
   (.br ((arA X Y m).s == (arA Y X m).s && ((arA X Y m).r == (arA Y X m).r && ((arA X Y m).c == (arA Y X m).c && ((arA X Y m).h == (arA Y X m).h && ((arA X Y m).w == (arA Y X m).w && true)))))
   (.br ((arA X Y m).s == (arA (plainR X) Y m).s && ((arA X Y m).r == (arA (plainR X) Y m).r && ((arA X Y m).c == (arA (plainR X) Y m).c && ((arA X Y m).h == (arA (plainR X) Y m).h && ((arA X Y m).w == (arA (plainR X) Y m).w && true)))))
   (.br ((arA X Y m).h == IntKind.i64.wrap (R + 1))
   (.br ((arA X Y m).w == IntKind.i64.wrap (C + 1))
   (.br ((arA X Y m).inB)
   (.br (hasB (arA X Y m) m X.r X.c)
   (.br ((arA X Y m).inB)
   (.br (hasB (arA X Y m) m Y.r Y.c)
   (.br ((arA X Y m).inB)
   (.ret (.bool !hasB (arA X Y m) (IntKind.i64.wrap (7 - m)) X.r X.c) [])
   (.fail))
   (.ret (.bool false) []))
   (.fail))
   (.ret (.bool false) []))
   (.fail))
   (.ret (.bool false) []))
   (.ret (.bool false) []))
   (.ret (.bool false) []))
   (.ret (.bool false) []))
   (.ret (.bool false) []))
   (.ret (.bool false) []))
   (.ret (.bool false) [])
theorem area_rest (F : Rf → Rf) (X Y : Rf) (m R C : Int) :
    code (ent Tryd.prog (tabF F) nolv 64 18446744073709551616 30) Tryd.prog (nolv 8) 0 64 18446744073709551616 (restC 14 (bodyOf Tryd.f8)) (stA X Y m R C) (finP Tryd.prog Tryd.f8 0 [] pure2) = (arT X Y m R C).run pure2 := by kernel_rfl

end Go.Proofs.YtmblfgigchdnbaaDoor
