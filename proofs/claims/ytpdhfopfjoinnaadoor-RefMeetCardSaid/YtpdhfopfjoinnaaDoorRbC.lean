/- Layer 2: RefMeet: places are in both areas just if they are where these meet. -/
import Derived.Test.YtpdhfopfjoinnaaDoorRbB
set_option linter.unusedVariables false
set_option linter.unusedSimpArgs false
namespace Go.Proofs.YtpdhfopfjoinnaaDoor
open Go Sx

/-- What the law comes to. -/
def meetT (A B C X Y Z : Ar) (p0 p1 p2 q0 q1 q2 : Int) : Ans :=
  .br (A.inB)
  (.br (B.inB)
    (.br (C.inB)
      (.br (inI p0 && inI p1 && inI p2)
        (.br (X.inB && Y.inB)
          (.br (Y.inB && X.inB)
            (.br (X.inB && X.inB)
              (.br (!((meetA X Y).s == (meetA Y X).s &&
                  ((meetA X Y).r == (meetA Y X).r &&
                    ((meetA X Y).c == (meetA Y X).c &&
                      ((meetA X Y).h == (meetA Y X).h && ((meetA X Y).w == (meetA Y X).w && true))))))
                (.ret (AV.bool false) [])
                (.br (!meetB X Y == meetB Y X)
                  (.ret (AV.bool false) [])
                  (.br (!meetB X X)
                    (.ret (AV.bool false) [])
                    (.br (!((meetA X X).s == X.s &&
                        ((meetA X X).r == X.r &&
                          ((meetA X X).c == X.c && ((meetA X X).h == X.h && ((meetA X X).w == X.w && true))))))
                      (.ret (AV.bool false) [])
                      (.br (X.inB)
                        (.br (hasB X q0 q1 q2)
                          (.br (Y.inB)
                            (.br ((meetA X Y).inB)
                              (.br (!hasB Y q0 q1 q2 == hasB (meetA X Y) q0 q1 q2)
                                (.ret (AV.bool false) [])
                                (.br (!meetB X Y)
                                  (.ret (AV.bool
                                    ((meetA X Y).s == 0 &&
                                      ((meetA X Y).r == 0 &&
                                        ((meetA X Y).c == 0 &&
                                          ((meetA X Y).h == 0 && ((meetA X Y).w == 0 && true)))))) [])
                                  (.br ((meetA X Y).inB && Z.inB)
                                    (.br (Y.inB && Z.inB)
                                      (.br (X.inB && (meetA Y Z).inB)
                                        (.br (X.inB)
                                          (.br (hasB X (meetA X Y).s (meetA X Y).r (meetA X Y).c)
                                            (.br (Y.inB)
                                              (.br (hasB Y (meetA X Y).s (meetA X Y).r (meetA X Y).c)
                                                (.br (X.inB)
                                                  (.br (hasB X (meetA X Y).s
                                                    (IntKind.i64.wrap
                                                      (IntKind.i64.wrap ((meetA X Y).r + (meetA X Y).h) - 1))
                                                    (IntKind.i64.wrap
                                                      (IntKind.i64.wrap ((meetA X Y).c + (meetA X Y).w) - 1)))
                                                    (.br (Y.inB)
                                                      (.br (hasB Y (meetA X Y).s
                                                        (IntKind.i64.wrap
                                                          (IntKind.i64.wrap ((meetA X Y).r + (meetA X Y).h) - 1))
                                                        (IntKind.i64.wrap
                                                          (IntKind.i64.wrap ((meetA X Y).c + (meetA X Y).w) - 1)))
                                                        (.br (meetB Y Z)
                                                          (.br (meetB (meetA X Y) Z == meetB X (meetA Y Z))
                                                            (.br (!meetB (meetA X Y) Z)
                                                              (.ret (AV.bool true) [])
                                                              (.ret (AV.bool
                                                                ((meetA (meetA X Y) Z).s == (meetA X (meetA Y Z)).s &&
                                                                  ((meetA (meetA X Y) Z).r == (meetA X (meetA Y Z)).r &&
                                                                    ((meetA (meetA X Y) Z).c ==
                                                                        (meetA X (meetA Y Z)).c &&
                                                                      ((meetA (meetA X Y) Z).h ==
                                                                          (meetA X (meetA Y Z)).h &&
                                                                        ((meetA (meetA X Y) Z).w ==
                                                                            (meetA X (meetA Y Z)).w &&
                                                                          true)))))) []))
                                                            (.ret (AV.bool false) []))
                                                          (.br (meetB (meetA X Y) Z == false)
                                                            (.br (!meetB (meetA X Y) Z)
                                                              (.ret (AV.bool true) [])
                                                              (.ret (AV.bool
                                                                ((meetA (meetA X Y) Z).s == (meetA X (meetA Y Z)).s &&
                                                                  ((meetA (meetA X Y) Z).r == (meetA X (meetA Y Z)).r &&
                                                                    ((meetA (meetA X Y) Z).c ==
                                                                        (meetA X (meetA Y Z)).c &&
                                                                      ((meetA (meetA X Y) Z).h ==
                                                                          (meetA X (meetA Y Z)).h &&
                                                                        ((meetA (meetA X Y) Z).w ==
                                                                            (meetA X (meetA Y Z)).w &&
                                                                          true)))))) []))
                                                            (.ret (AV.bool false) [])))
                                                        (.ret (AV.bool false) []))
                                                      (.fail))
                                                    (.ret (AV.bool false) []))
                                                  (.fail))
                                                (.ret (AV.bool false) []))
                                              (.fail))
                                            (.ret (AV.bool false) []))
                                          (.fail))
                                        (.fail))
                                      (.fail))
                                    (.fail))))
                              (.fail))
                            (.fail))
                          (.br ((meetA X Y).inB)
                            (.br (!false == hasB (meetA X Y) q0 q1 q2)
                              (.ret (AV.bool false) [])
                              (.br (!meetB X Y)
                                (.ret (AV.bool
                                  ((meetA X Y).s == 0 &&
                                    ((meetA X Y).r == 0 &&
                                      ((meetA X Y).c == 0 &&
                                        ((meetA X Y).h == 0 && ((meetA X Y).w == 0 && true)))))) [])
                                (.br ((meetA X Y).inB && Z.inB)
                                  (.br (Y.inB && Z.inB)
                                    (.br (X.inB && (meetA Y Z).inB)
                                      (.br (X.inB)
                                        (.br (hasB X (meetA X Y).s (meetA X Y).r (meetA X Y).c)
                                          (.br (Y.inB)
                                            (.br (hasB Y (meetA X Y).s (meetA X Y).r (meetA X Y).c)
                                              (.br (X.inB)
                                                (.br (hasB X (meetA X Y).s
                                                  (IntKind.i64.wrap
                                                    (IntKind.i64.wrap ((meetA X Y).r + (meetA X Y).h) - 1))
                                                  (IntKind.i64.wrap
                                                    (IntKind.i64.wrap ((meetA X Y).c + (meetA X Y).w) - 1)))
                                                  (.br (Y.inB)
                                                    (.br (hasB Y (meetA X Y).s
                                                      (IntKind.i64.wrap
                                                        (IntKind.i64.wrap ((meetA X Y).r + (meetA X Y).h) - 1))
                                                      (IntKind.i64.wrap
                                                        (IntKind.i64.wrap ((meetA X Y).c + (meetA X Y).w) - 1)))
                                                      (.br (meetB Y Z)
                                                        (.br (meetB (meetA X Y) Z == meetB X (meetA Y Z))
                                                          (.br (!meetB (meetA X Y) Z)
                                                            (.ret (AV.bool true) [])
                                                            (.ret (AV.bool
                                                              ((meetA (meetA X Y) Z).s == (meetA X (meetA Y Z)).s &&
                                                                ((meetA (meetA X Y) Z).r == (meetA X (meetA Y Z)).r &&
                                                                  ((meetA (meetA X Y) Z).c == (meetA X (meetA Y Z)).c &&
                                                                    ((meetA (meetA X Y) Z).h ==
                                                                        (meetA X (meetA Y Z)).h &&
                                                                      ((meetA (meetA X Y) Z).w ==
                                                                          (meetA X (meetA Y Z)).w &&
                                                                        true)))))) []))
                                                          (.ret (AV.bool false) []))
                                                        (.br (meetB (meetA X Y) Z == false)
                                                          (.br (!meetB (meetA X Y) Z)
                                                            (.ret (AV.bool true) [])
                                                            (.ret (AV.bool
                                                              ((meetA (meetA X Y) Z).s == (meetA X (meetA Y Z)).s &&
                                                                ((meetA (meetA X Y) Z).r == (meetA X (meetA Y Z)).r &&
                                                                  ((meetA (meetA X Y) Z).c == (meetA X (meetA Y Z)).c &&
                                                                    ((meetA (meetA X Y) Z).h ==
                                                                        (meetA X (meetA Y Z)).h &&
                                                                      ((meetA (meetA X Y) Z).w ==
                                                                          (meetA X (meetA Y Z)).w &&
                                                                        true)))))) []))
                                                          (.ret (AV.bool false) [])))
                                                      (.ret (AV.bool false) []))
                                                    (.fail))
                                                  (.ret (AV.bool false) []))
                                                (.fail))
                                              (.ret (AV.bool false) []))
                                            (.fail))
                                          (.ret (AV.bool false) []))
                                        (.fail))
                                      (.fail))
                                    (.fail))
                                  (.fail))))
                            (.fail)))
                        (.fail))))))
              (.fail))
            (.fail))
          (.fail))
        (.fail))
      (.fail))
    (.fail))
  (.fail)
theorem meetT_comes (a0 a1 a2 a3 a4 b0 b1 b2 b3 b4 c0 c1 c2 c3 c4 p0 p1 p2 : Int) : Comes tab2 nolv 7 [.agg [.int .i64 a0, .int .i64 a1, .int .i64 a2, .int .i64 a3, .int .i64 a4], .agg [.int .i64 b0, .int .i64 b1, .int .i64 b2, .int .i64 b3, .int .i64 b4], .agg [.int .i64 c0, .int .i64 c1, .int .i64 c2, .int .i64 c3, .int .i64 c4], .agg [.int .i64 p0, .int .i64 p1, .int .i64 p2]] []
    (meetT ⟨a0, a1, a2, a3, a4⟩ ⟨b0, b1, b2, b3, b4⟩ ⟨c0, c1, c2, c3, c4⟩ (areaS ⟨a0, a1, a2, a3, a4⟩) (areaS ⟨b0, b1, b2, b3, b4⟩) (areaS ⟨c0, c1, c2, c3, c4⟩) p0 p1 p2 (pickS p0 2) (pickS p1 200) (pickS p2 52)) := by unfold Comes; kernel_rfl

end Go.Proofs.YtpdhfopfjoinnaaDoor
