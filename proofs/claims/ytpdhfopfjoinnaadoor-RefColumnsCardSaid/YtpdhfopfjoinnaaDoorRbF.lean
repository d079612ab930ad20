/- Layer 2: RefColumns is so. -/
import Derived.Test.YtpdhfopfjoinnaaDoorRbE
set_option linter.unusedVariables false
set_option linter.unusedSimpArgs false
namespace Go.Proofs.YtpdhfopfjoinnaaDoor
open Go Sx

def lenI (p : Int) : Int := ((colS p.toNat).length : Int)
def backI (p : Int) : Int := (colN (colS p.toNat) : Int)
def colT (p q : Int) : Ans :=
  .br (inI p)
    (.br (colB p)
      (.br (inI q)
        (.br (colB q)
          (.br (isColB (colS p.toNat))
            (.br (decide (lenI p < lenI q))
              (.br (inI (IntKind.i64.wrap (52 + p)))
                (.br (colB (IntKind.i64.wrap (52 + p)))
                  (.br (inI (IntKind.i64.wrap (-1 - p)))
                    (.br (colB (IntKind.i64.wrap (-1 - p)))
                      (.br (backI p == p)
                        (.br (true == decide (p < q))
                          (.br ((colS p.toNat == colS q.toNat) == (p == q))
                            (.ret (.bool false) [])
                            (.ret (.bool false) []))
                          (.ret (.bool false) []))
                        (.ret (.bool false) []))
                      (.br (backI p == p)
                        (.br (true == decide (p < q))
                          (.br ((colS p.toNat == colS q.toNat) == (p == q))
                            (.ret (.bool false) [])
                            (.ret (.bool false) []))
                          (.ret (.bool false) []))
                        (.ret (.bool false) [])))
                    (.fail))
                  (.br (inI (IntKind.i64.wrap (-1 - p)))
                    (.br (colB (IntKind.i64.wrap (-1 - p)))
                      (.br (backI p == p)
                        (.br (true == decide (p < q))
                          (.br ((colS p.toNat == colS q.toNat) == (p == q))
                            (.ret (.bool ((0 : Int) == 20)) [])
                            (.ret (.bool false) []))
                          (.ret (.bool false) []))
                        (.ret (.bool false) []))
                      (.br (backI p == p)
                        (.br (true == decide (p < q))
                          (.br ((colS p.toNat == colS q.toNat) == (p == q))
                            (.ret (.bool ((20 : Int) == 20)) [])
                            (.ret (.bool false) []))
                          (.ret (.bool false) []))
                        (.ret (.bool false) [])))
                    (.fail)))
                (.fail))
              (.br (lenI p == lenI q)
                (.br (inI (IntKind.i64.wrap (52 + p)))
                  (.br (colB (IntKind.i64.wrap (52 + p)))
                    (.br (inI (IntKind.i64.wrap (-1 - p)))
                      (.br (colB (IntKind.i64.wrap (-1 - p)))
                        (.br (backI p == p)
                          (.br (Op.bytesLess (colS p.toNat) (colS q.toNat) ==
                            decide (p < q))
                            (.br ((colS p.toNat == colS q.toNat) == (p == q))
                              (.ret (.bool false) [])
                              (.ret (.bool false) []))
                            (.ret (.bool false) []))
                          (.ret (.bool false) []))
                        (.br (backI p == p)
                          (.br (Op.bytesLess (colS p.toNat) (colS q.toNat) ==
                            decide (p < q))
                            (.br ((colS p.toNat == colS q.toNat) == (p == q))
                              (.ret (.bool false) [])
                              (.ret (.bool false) []))
                            (.ret (.bool false) []))
                          (.ret (.bool false) [])))
                      (.fail))
                    (.br (inI (IntKind.i64.wrap (-1 - p)))
                      (.br (colB (IntKind.i64.wrap (-1 - p)))
                        (.br (backI p == p)
                          (.br (Op.bytesLess (colS p.toNat) (colS q.toNat) ==
                            decide (p < q))
                            (.br ((colS p.toNat == colS q.toNat) == (p == q))
                              (.ret (.bool ((0 : Int) == 20)) [])
                              (.ret (.bool false) []))
                            (.ret (.bool false) []))
                          (.ret (.bool false) []))
                        (.br (backI p == p)
                          (.br (Op.bytesLess (colS p.toNat) (colS q.toNat) ==
                            decide (p < q))
                            (.br ((colS p.toNat == colS q.toNat) == (p == q))
                              (.ret (.bool ((20 : Int) == 20)) [])
                              (.ret (.bool false) []))
                            (.ret (.bool false) []))
                          (.ret (.bool false) [])))
                      (.fail)))
                  (.fail))
                (.br (inI (IntKind.i64.wrap (52 + p)))
                  (.br (colB (IntKind.i64.wrap (52 + p)))
                    (.br (inI (IntKind.i64.wrap (-1 - p)))
                      (.br (colB (IntKind.i64.wrap (-1 - p)))
                        (.br (backI p == p)
                          (.br (false == decide (p < q))
                            (.br ((colS p.toNat == colS q.toNat) == (p == q))
                              (.ret (.bool false) [])
                              (.ret (.bool false) []))
                            (.ret (.bool false) []))
                          (.ret (.bool false) []))
                        (.br (backI p == p)
                          (.br (false == decide (p < q))
                            (.br ((colS p.toNat == colS q.toNat) == (p == q))
                              (.ret (.bool false) [])
                              (.ret (.bool false) []))
                            (.ret (.bool false) []))
                          (.ret (.bool false) [])))
                      (.fail))
                    (.br (inI (IntKind.i64.wrap (-1 - p)))
                      (.br (colB (IntKind.i64.wrap (-1 - p)))
                        (.br (backI p == p)
                          (.br (false == decide (p < q))
                            (.br ((colS p.toNat == colS q.toNat) == (p == q))
                              (.ret (.bool ((0 : Int) == 20)) [])
                              (.ret (.bool false) []))
                            (.ret (.bool false) []))
                          (.ret (.bool false) []))
                        (.br (backI p == p)
                          (.br (false == decide (p < q))
                            (.br ((colS p.toNat == colS q.toNat) == (p == q))
                              (.ret (.bool ((20 : Int) == 20)) [])
                              (.ret (.bool false) []))
                            (.ret (.bool false) []))
                          (.ret (.bool false) [])))
                      (.fail)))
                  (.fail))))
            (.fail))
          (.br (isColB (colS p.toNat))
            (.br (lenI p == (([] : List UInt8).length : Int))
              (.br (inI (IntKind.i64.wrap (52 + p)))
                (.br (colB (IntKind.i64.wrap (52 + p)))
                  (.br (inI (IntKind.i64.wrap (-1 - p)))
                    (.br (colB (IntKind.i64.wrap (-1 - p)))
                      (.ret (.bool false) [])
                      (.ret (.bool false) []))
                    (.fail))
                  (.br (inI (IntKind.i64.wrap (-1 - p)))
                    (.br (colB (IntKind.i64.wrap (-1 - p)))
                      (.ret (.bool false) [])
                      (.ret (.bool false) []))
                    (.fail)))
                (.fail))
              (.br (inI (IntKind.i64.wrap (52 + p)))
                (.br (colB (IntKind.i64.wrap (52 + p)))
                  (.br (inI (IntKind.i64.wrap (-1 - p)))
                    (.br (colB (IntKind.i64.wrap (-1 - p)))
                      (.ret (.bool false) [])
                      (.ret (.bool false) []))
                    (.fail))
                  (.br (inI (IntKind.i64.wrap (-1 - p)))
                    (.br (colB (IntKind.i64.wrap (-1 - p)))
                      (.ret (.bool false) [])
                      (.ret (.bool false) []))
                    (.fail)))
                (.fail)))
            (.fail)))
        (.fail))
      (.br (inI q)
        (.br (colB q)
          (.fail)
          (.fail))
        (.fail)))
    (.fail)

theorem colT_comes (a b : Int) : Comes tab3 nolv 5 [.int .i64 a, .int .i64 b] [] (.br (inI a && decide ((0 : Int) < 52)) (.br (inI b && decide ((0 : Int) < 52)) (colT (pickS a 52) (pickS b 52)) .fail) .fail) := by unfold Comes; kernel_rfl

/-- Is true what an answer says? -/
def isT : Ans → Bool
  | .ret (.bool b) [] => b
  | .ret _ _ => false
  | .fail => false
  | .br c x y => bcond c (isT x) (isT y)
theorem isT_run : ∀ x : Ans, isT x = true → x.run pure2 = some (.bool true, [])
  | .ret v p, h => by
    unfold isT at h
    split at h
    · rename_i e; cases e; subst h; rfl
    all_goals first | cases h | (rename_i e; cases e)
  | .fail, h => by simp [isT] at h
  | .br c x y, h => by
    simp only [isT] at h
    simp only [Ans.run]
    cases c with
    | true => exact isT_run x h
    | false => exact isT_run y h
theorem colT_all : ((List.range 52).all fun i : Nat => (List.range 52).all fun j : Nat => isT (colT (i : Int) (j : Int))) = true := by kernel_rfl

/-- RefColumns: whatever it is called with, true. -/
theorem columns_law (a b : Int) (ha : inI a = true) (hb : inI b = true) : Meets Tryd.prog 5 [.int .i64 a, .int .i64 b] [] (.bool true) [] := by
  have h1 := pickS_bd (a := a) (n := 52) (by omega)
  have h2 := pickS_bd (a := b) (n := 52) (by omega)
  obtain ⟨i, hi⟩ : ∃ k : Nat, pickS a 52 = k := ⟨(pickS a 52).toNat, by omega⟩
  obtain ⟨j, hj⟩ : ∃ k : Nat, pickS b 52 = k := ⟨(pickS b 52).toNat, by omega⟩
  have hall := List.all_eq_true.1 (List.all_eq_true.1 colT_all i (List.mem_range.2 (by omega))) j (List.mem_range.2 (by omega))
  have hr := isT_run _ hall
  have := ans_comes tab3_ok (colT_comes a b)
  rw [hi, hj] at this
  obtain ⟨res, post, k1, k2⟩ := Ans.sound (k := pure2) (r := (.bool true, [])) _ this (by
    have e1 : (inI a && decide ((0 : Int) < 52)) = true := by rw [ha]; rfl
    have e2 : (inI b && decide ((0 : Int) < 52)) = true := by rw [hb]; rfl
    rw [Ans.run, bcT e1, Ans.run, bcT e2]; exact hr)
  cases k2; exact k1

end Go.Proofs.YtpdhfopfjoinnaaDoor
