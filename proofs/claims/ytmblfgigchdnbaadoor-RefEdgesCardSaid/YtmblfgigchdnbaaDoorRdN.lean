/- Layer 2: RefEdges is so. -/
import Derived.Test.YtmblfgigchdnbaaDoorRdL
set_option linter.unusedVariables false
set_option linter.unusedSimpArgs false
namespace Go.Proofs.YtmblfgigchdnbaaDoor
open Go Sx

def edgT (X : Rf) (A : Ar) (yb : Bool) : Ans :=
  .br (erM X (IntKind.i64.wrap (0 - X.r)) (IntKind.i64.wrap (0 - X.c)) != 0)
   (.ret (.bool false) [])
   (.br (erM X (IntKind.i64.wrap (199 - X.r)) (IntKind.i64.wrap (51 - X.c)) != 0)
   (.ret (.bool false) [])
   (.br (IntKind.i64.wrap ((mvO X (IntKind.i64.wrap (0 - X.r)) (IntKind.i64.wrap (0 - X.c))).r + (mvO X (IntKind.i64.wrap (0 - X.r)) (IntKind.i64.wrap (0 - X.c))).c) != 0)
   (.ret (.bool false) [])
   (.br ((mvO X (IntKind.i64.wrap (199 - X.r)) (IntKind.i64.wrap (51 - X.c))).r != 199)
   (.ret (.bool false) [])
   (.br ((mvO X (IntKind.i64.wrap (199 - X.r)) (IntKind.i64.wrap (51 - X.c))).c != 51)
   (.ret (.bool false) [])
   (.br (erM X (IntKind.i64.wrap (IntKind.i64.wrap (0 - X.r) - 1)) 0 != 20)
   (.ret (.bool false) [])
   (.br (erM X 0 (IntKind.i64.wrap (52 - X.c)) != 20)
   (.ret (.bool false) [])
   (.br (erM X (IntKind.i64.wrap (200 - X.r)) 0 != 20)
   (.ret (.bool false) [])
   (.br (erM X 0 (IntKind.i64.wrap (IntKind.i64.wrap (0 - X.c) - 1)) != 20)
   (.ret (.bool false) [])
   (.br (yb)
   (.br (A.inB && (Ar.inB ⟨A.s, A.r, A.c, A.h, IntKind.i64.wrap (52 - A.c)⟩))
   (.br (A.inB && (Ar.inB ⟨A.s, A.r, A.c, IntKind.i64.wrap (200 - A.r), A.w⟩))
   (.br (A.inB && (Ar.inB ⟨A.s, A.r, A.c, A.h, IntKind.i64.wrap (IntKind.i64.wrap (52 - A.c) + 1)⟩))
   (.br ((Ar.inB ⟨A.s, A.r, A.c, IntKind.i64.wrap (IntKind.i64.wrap (200 - A.r) + 1), A.w⟩) && A.inB)
   (.br (meetB A ⟨A.s, A.r, A.c, A.h, IntKind.i64.wrap (52 - A.c)⟩)
   (.br ((meetA A ⟨A.s, A.r, A.c, A.h, IntKind.i64.wrap (52 - A.c)⟩).s == A.s && ((meetA A ⟨A.s, A.r, A.c, A.h, IntKind.i64.wrap (52 - A.c)⟩).r == A.r && ((meetA A ⟨A.s, A.r, A.c, A.h, IntKind.i64.wrap (52 - A.c)⟩).c == A.c && ((meetA A ⟨A.s, A.r, A.c, A.h, IntKind.i64.wrap (52 - A.c)⟩).h == A.h && ((meetA A ⟨A.s, A.r, A.c, A.h, IntKind.i64.wrap (52 - A.c)⟩).w == A.w && true)))))
   (.br (meetB A ⟨A.s, A.r, A.c, IntKind.i64.wrap (200 - A.r), A.w⟩)
   (.br ((meetA A ⟨A.s, A.r, A.c, IntKind.i64.wrap (200 - A.r), A.w⟩).s == A.s && ((meetA A ⟨A.s, A.r, A.c, IntKind.i64.wrap (200 - A.r), A.w⟩).r == A.r && ((meetA A ⟨A.s, A.r, A.c, IntKind.i64.wrap (200 - A.r), A.w⟩).c == A.c && ((meetA A ⟨A.s, A.r, A.c, IntKind.i64.wrap (200 - A.r), A.w⟩).h == A.h && ((meetA A ⟨A.s, A.r, A.c, IntKind.i64.wrap (200 - A.r), A.w⟩).w == A.w && true)))))
   (.br (!meetB A ⟨A.s, A.r, A.c, A.h, IntKind.i64.wrap (IntKind.i64.wrap (52 - A.c) + 1)⟩)
   (.br (!meetB ⟨A.s, A.r, A.c, IntKind.i64.wrap (IntKind.i64.wrap (200 - A.r) + 1), A.w⟩ A)
   (.br ((Ar.inB ⟨A.s, A.r, A.c, IntKind.i64.wrap (IntKind.i64.wrap (200 - A.r) + 1), A.w⟩))
   (.ret (.bool !hasB ⟨A.s, A.r, A.c, IntKind.i64.wrap (IntKind.i64.wrap (200 - A.r) + 1), A.w⟩ A.s A.r A.c) [])
   (.fail))
   (.ret (.bool false) []))
   (.ret (.bool false) []))
   (.ret (.bool false) []))
   (.ret (.bool false) []))
   (.ret (.bool false) []))
   (.ret (.bool false) []))
   (.fail))
   (.fail))
   (.fail))
   (.fail))
   (.fail))))))))))
theorem edgT_comes (F : Rf → Rf) (s : List UInt8) (r c y0 y1 y2 y3 y4 : Int) (a b d : Bool) : Comes (tabG F) nolv 9 [.agg [.str s, .int .i64 r, .int .i64 c, .bool a, .bool b, .bool d], .agg [.int .i64 y0, .int .i64 y1, .int .i64 y2, .int .i64 y3, .int .i64 y4]] []
    (.br (inI r && inI c && decide (s.length ≤ 9223372036854775807)) (edgT (F ⟨s, r, c, false, false, false⟩) (areaS ⟨y0, y1, y2, y3, y4⟩) (Ar.inB ⟨y0, y1, y2, y3, y4⟩)) .fail) := by unfold Comes; kernel_rfl

end Go.Proofs.YtmblfgigchdnbaaDoor
