/- Layer 2: references. -/
import Derived.Test.YtanhlbdcjonaoaaDoorRdH
set_option linter.unusedVariables false
set_option linter.unusedSimpArgs false
namespace Go.Proofs.YtanhlbdcjonaoaaDoor
open Go Sx

structure Rf where
  s : List UInt8
  r : Int
  c : Int
  a : Bool
  b : Bool
  d : Bool
def Rf.v (x : Rf) : AV := .agg [.str x.s, .int .i64 x.r, .int .i64 x.c, .bool x.a, .bool x.b, .bool x.d]
def rightB (x : Rf) : Bool := bcond x.d (x.s == [] && (x.r == 0 && (x.c == 0 && (x.a == false && (x.b == false && (x.d == true && true)))))) (bcond (!(x.s == [])) (sheetB x.s) true && decide (0 ≤ x.r ∧ x.r < 200 ∧ 0 ≤ x.c ∧ x.c < 52))
def tab9 : Tab := (40, eIsSheetP) :: (25, eRefName) :: tab2
theorem tab9_ok : TabOK Tryd.prog tab9 := .cons isSheetP_ok (.cons refName_ok tab2_ok)
def eRight : Ent := fun args pre => match args, pre with
  | [.agg [.str s, .int .i64 r, .int .i64 c, .bool a, .bool b, .bool d]], [] => .ret (.bool (rightB ⟨s, r, c, a, b, d⟩)) []
  | _, _ => .fail
theorem right_ok : EntOK Tryd.prog 16 eRight := fun args pre => by
  unfold eRight
  split
  · rename_i s r c a b d
    have e : Comes tab9 nolv 16 [.agg [.str s, .int .i64 r, .int .i64 c, .bool a, .bool b, .bool d]] []
      (.br d (.ret (.bool (s == [] && (r == 0 && (c == 0 && (a == false && (b == false && (d == true && true))))))) [])
        (.br (!(s == [])) (.br (!sheetB s) (.ret (.bool false) []) (.br (decide (r ≥ 0)) (.br (decide (r < 200)) (.br (decide (c ≥ 0)) (.ret (.bool (decide (c < 52))) []) (.ret (.bool false) [])) (.ret (.bool false) [])) (.ret (.bool false) [])))
          (.br (decide (r ≥ 0)) (.br (decide (r < 200)) (.br (decide (c ≥ 0)) (.ret (.bool (decide (c < 52))) []) (.ret (.bool false) [])) (.ret (.bool false) [])) (.ret (.bool false) [])))) := by unfold Comes; kernel_rfl
    refine of_run (ans_comes tab9_ok e) fun x h => ?_
    rw [← h]
    simp only [Ans.run, rightB]
    have key : ∀ b c : Bool, b = c → pure2 (.bool b) [] = pure2 (.bool c) [] := fun b c e => by rw [e]
    have rest : bcond (decide (r ≥ 0)) (bcond (decide (r < 200)) (bcond (decide (c ≥ 0)) (pure2 (.bool (decide (c < 52))) []) (pure2 (.bool false) [])) (pure2 (.bool false) [])) (pure2 (.bool false) []) = pure2 (.bool (true && decide (0 ≤ r ∧ r < 200 ∧ 0 ≤ c ∧ c < 52))) [] := by
      by_cases c1 : r ≥ 0
      · rw [bcT (decide_eq_true c1)]
        by_cases c2 : r < 200
        · rw [bcT (decide_eq_true c2)]
          by_cases c3 : c ≥ 0
          · rw [bcT (decide_eq_true c3)]; exact key _ _ (by rw [Bool.true_and, decide_eq_decide]; omega)
          · rw [bcF (decide_eq_false c3)]; exact key _ _ (by simp; omega)
        · rw [bcF (decide_eq_false c2)]; exact key _ _ (by simp; omega)
      · rw [bcF (decide_eq_false c1)]; exact key _ _ (by simp; omega)
    cases d with
    | true => rfl
    | false =>
      cases !(s == []) with
      | false => exact rest
      | true =>
        cases sheetB s with
        | false => rfl
        | true => exact rest
  · trivial

/-- RefOf: of a raw reference, one that is right. -/
def refS (x : Rf) : Rf := bcond (x.d && pickS x.r 4 == 0) ⟨[], 0, 0, false, false, true⟩ ⟨bcond (!(x.s == [])) (nameS x.s) [], pickS x.r 200, pickS x.c 52, x.a, x.b, false⟩
theorem refS_right (x : Rf) : rightB (refS x) = true := by
  unfold refS
  cases x.d && pickS x.r 4 == 0 with
  | true => rfl
  | false =>
    have h1 := pickS_bd (a := x.r) (n := 200) (by omega)
    have h2 := pickS_bd (a := x.c) (n := 52) (by omega)
    have h3 := name_sheet (nameS_ok x.s)
    show rightB ⟨bcond (!(x.s == [])) (nameS x.s) [], pickS x.r 200, pickS x.c 52, x.a, x.b, false⟩ = true
    unfold rightB
    simp only [bcond]
    have hd : decide (0 ≤ pickS x.r 200 ∧ pickS x.r 200 < 200 ∧ 0 ≤ pickS x.c 52 ∧ pickS x.c 52 < 52) = true := decide_eq_true (by omega)
    rw [hd, Bool.and_true]
    cases !(x.s == []) with
    | false => rfl
    | true =>
      simp only
      cases !(nameS x.s == []) with
      | true => exact h3
      | false => rfl
def eRefOf : Ent := fun args pre => match args, pre with
  | [.agg [.str s, .int .i64 r, .int .i64 c, .bool a, .bool b, .bool d]], [] => .chk (inI r && inI c && decide (s.length ≤ 9223372036854775807)) (.ret (refS ⟨s, r, c, a, b, d⟩).v [])
  | _, _ => .fail
theorem refOf_ok : EntOK Tryd.prog 11 eRefOf := fun args pre => by
  unfold eRefOf
  split
  · rename_i s r c a b d
    have e : Comes tab9 nolv 11 [.agg [.str s, .int .i64 r, .int .i64 c, .bool a, .bool b, .bool d]] []
      (.br d (.br (inI r && decide ((0 : Int) < 4)) (.br (pickS r 4 == 0) (.ret (.agg [.str [], .int .i64 0, .int .i64 0, .bool false, .bool false, .bool true]) [])
          (.br (inI r && decide ((0 : Int) < 200)) (.br (inI c && decide ((0 : Int) < 52)) (.br (!(s == [])) (.br (decide (s.length ≤ 9223372036854775807)) (.ret (.agg [.str (nameS s), .int .i64 (pickS r 200), .int .i64 (pickS c 52), .bool a, .bool b, .bool false]) []) .fail)
            (.ret (.agg [.str [], .int .i64 (pickS r 200), .int .i64 (pickS c 52), .bool a, .bool b, .bool false]) [])) .fail) .fail)) .fail)
        (.br (inI r && decide ((0 : Int) < 200)) (.br (inI c && decide ((0 : Int) < 52)) (.br (!(s == [])) (.br (decide (s.length ≤ 9223372036854775807)) (.ret (.agg [.str (nameS s), .int .i64 (pickS r 200), .int .i64 (pickS c 52), .bool a, .bool b, .bool false]) []) .fail)
            (.ret (.agg [.str [], .int .i64 (pickS r 200), .int .i64 (pickS c 52), .bool a, .bool b, .bool false]) [])) .fail) .fail)) := by unfold Comes; kernel_rfl
    refine of_run (ans_comes tab9_ok e) fun x h => ?_
    obtain ⟨h1, h⟩ := chk_run h
    simp only [Bool.and_eq_true] at h1
    obtain ⟨⟨k1, k2⟩, k3⟩ := h1
    rw [← h]
    simp only [Ans.run, k1, k2, k3, refS]
    cases d with
    | false => cases !(s == []) <;> rfl
    | true =>
      cases hp : (pickS r 4 == 0) with
      | true => rfl
      | false => cases !(s == []) <;> rfl
  · trivial
def tab10 : Tab := (16, eRight) :: (11, eRefOf) :: tab9
theorem tab10_ok : TabOK Tryd.prog tab10 := .cons right_ok (.cons refOf_ok tab9_ok)

end Go.Proofs.YtanhlbdcjonaoaaDoor
