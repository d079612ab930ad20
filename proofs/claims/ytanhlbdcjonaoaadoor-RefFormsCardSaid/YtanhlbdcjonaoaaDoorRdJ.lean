/- Layer 2: areas between references. -/
import Derived.Test.YtanhlbdcjonaoaaDoorRdI
set_option linter.unusedVariables false
set_option linter.unusedSimpArgs false
namespace Go.Proofs.YtanhlbdcjonaoaaDoor
open Go Sx

def erA (x y : Rf) (n : Int) : Int := bcond (decide (n < 0)) 2 (bcond (decide (n ≥ 8)) 2 (bcond (!rightB x) 20 (bcond (!rightB y) 20 (bcond x.d 20 (bcond y.d 20 0)))))
def arM (x y : Rf) (n : Int) : Ar := ⟨n, min x.r y.r, min x.c y.c, max x.r y.r + 1 - min x.r y.r, max x.c y.c + 1 - min x.c y.c⟩
def arA (x y : Rf) (n : Int) : Ar := bcond (erA x y n == 0) (arM x y n) ⟨0, 0, 0, 0, 0⟩
def eArea : Ent := fun args pre => match args, pre with
  | [.agg [.str s, .int .i64 r, .int .i64 c, .bool a, .bool b, .bool d], .agg [.str s2, .int .i64 r2, .int .i64 c2, .bool a2, .bool b2, .bool d2], .int .i64 n], [] =>
    .ret (.tuple [(arA ⟨s, r, c, a, b, d⟩ ⟨s2, r2, c2, a2, b2, d2⟩ n).v, .int .i64 (erA ⟨s, r, c, a, b, d⟩ ⟨s2, r2, c2, a2, b2, d2⟩ n)]) []
  | _, _ => .fail
def noA (e : Int) : Ans := .ret (.tuple [.agg [.int .i64 0, .int .i64 0, .int .i64 0, .int .i64 0, .int .i64 0], .int .i64 e]) []
theorem right_bd {x : Rf} (h : rightB x = true) (hd : x.d = false) : 0 ≤ x.r ∧ x.r < 200 ∧ 0 ≤ x.c ∧ x.c < 52 := by
  unfold rightB at h
  rw [bcF hd, Bool.and_eq_true, decide_eq_true_eq] at h
  exact h.2
theorem area_ok : EntOK Tryd.prog 24 eArea := fun args pre => by
  unfold eArea
  split
  · rename_i s r c a b d s2 r2 c2 a2 b2 d2 n
    have e : Comes tab10 nolv 24 [.agg [.str s, .int .i64 r, .int .i64 c, .bool a, .bool b, .bool d], .agg [.str s2, .int .i64 r2, .int .i64 c2, .bool a2, .bool b2, .bool d2], .int .i64 n] []
      (.br (decide (n < 0)) (noA 2) (.br (decide (n ≥ 8)) (noA 2) (.br (!rightB ⟨s, r, c, a, b, d⟩) (noA 20) (.br (!rightB ⟨s2, r2, c2, a2, b2, d2⟩) (noA 20) (.br d (noA 20) (.br d2 (noA 20)
        (.ret (.tuple [.agg [.int .i64 n, .int .i64 (if r2 < r then r2 else r), .int .i64 (if c2 < c then c2 else c), .int .i64 (IntKind.i64.wrap (IntKind.i64.wrap ((if r2 > r then r2 else r) + 1) - if r2 < r then r2 else r)),
          .int .i64 (IntKind.i64.wrap (IntKind.i64.wrap ((if c2 > c then c2 else c) + 1) - if c2 < c then c2 else c))], .int .i64 0]) []))))))) := by unfold Comes; kernel_rfl
    refine of_run (ans_comes tab10_ok e) fun x h => ?_
    rw [← h]
    simp only [Ans.run, noA, arA, erA]
    cases h1 : decide (n < 0) with
    | true => rfl
    | false =>
      cases h2 : decide (n ≥ 8) with
      | true => rfl
      | false =>
        cases h3 : rightB ⟨s, r, c, a, b, d⟩ with
        | false => rfl
        | true =>
          cases h4 : rightB ⟨s2, r2, c2, a2, b2, d2⟩ with
          | false => rfl
          | true =>
            cases d with
            | true => rfl
            | false =>
              cases d2 with
              | true => rfl
              | false =>
                have k1 := right_bd h3 rfl
                have k2 := right_bd h4 rfl
                simp only at k1 k2
                simp only [maxI', minI']
                rw [i64_in (n := max r r2 + 1) (by omega) (by omega), i64_in (n := max c c2 + 1) (by omega) (by omega), i64_in (by omega) (by omega), i64_in (by omega) (by omega)]
                rfl
  · trivial
def tab11 : Tab := (24, eArea) :: tab10
theorem tab11_ok : TabOK Tryd.prog tab11 := .cons area_ok tab10_ok

end Go.Proofs.YtanhlbdcjonaoaaDoor
