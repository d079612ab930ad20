/- Layer 2: what is moved. -/
import Derived.Test.YtanhlbdcjonaoaaDoorRdK0
set_option linter.unusedVariables false
set_option linter.unusedSimpArgs false
namespace Go.Proofs.YtanhlbdcjonaoaaDoor
open Go Sx

def noRf : Rf := ⟨[], 0, 0, false, false, false⟩
def mvR (x : Rf) (m n : Int) : Rf := ⟨x.s, bcond (!x.a) (IntKind.i64.wrap (x.r + m)) x.r, bcond (!x.b) (IntKind.i64.wrap (x.c + n)) x.c, x.a, x.b, x.d⟩
def erM (x : Rf) (m n : Int) : Int := bcond (!rightB x) 20 (bcond x.d 0 (bcond (!rightB (mvR x m n)) 20 0))
def mvO (x : Rf) (m n : Int) : Rf := bcond (!rightB x) noRf (bcond x.d x (bcond (!rightB (mvR x m n)) noRf (mvR x m n)))
def eMoved : Ent := fun args pre => match args, pre with
  | [.agg [.str s, .int .i64 r, .int .i64 c, .bool a, .bool b, .bool d], .int .i64 m, .int .i64 n], [] =>
    .ret (.tuple [(mvO ⟨s, r, c, a, b, d⟩ m n).v, .int .i64 (erM ⟨s, r, c, a, b, d⟩ m n)]) []
  | _, _ => .fail
def noM (x : Rf) : Ans := .br (!rightB x) (.ret (.tuple [noRf.v, .int .i64 20]) []) (.ret (.tuple [x.v, .int .i64 0]) [])
theorem moved_ok : EntOK Tryd.prog 19 eMoved := fun args pre => by
  unfold eMoved
  split
  · rename_i s r c a b d m n
    have e : Comes tab11 nolv 19 [.agg [.str s, .int .i64 r, .int .i64 c, .bool a, .bool b, .bool d], .int .i64 m, .int .i64 n] []
      (.br (!rightB ⟨s, r, c, a, b, d⟩) (.ret (.tuple [noRf.v, .int .i64 20]) []) (.br d (.ret (.tuple [.agg [.str s, .int .i64 r, .int .i64 c, .bool a, .bool b, .bool d], .int .i64 0]) [])
        (.br (!a) (.br (!b) (noM ⟨s, IntKind.i64.wrap (r + m), IntKind.i64.wrap (c + n), a, b, d⟩) (noM ⟨s, IntKind.i64.wrap (r + m), c, a, b, d⟩))
          (.br (!b) (noM ⟨s, r, IntKind.i64.wrap (c + n), a, b, d⟩) (noM ⟨s, r, c, a, b, d⟩))))) := by unfold Comes; kernel_rfl
    refine of_run (ans_comes tab11_ok e) fun x h => ?_
    rw [← h]
    simp only [Ans.run, noM, mvO, erM]
    cases h1 : rightB ⟨s, r, c, a, b, d⟩ with
    | false => rfl
    | true =>
      cases d with
      | true => rfl
      | false =>
        have key : ∀ (z : Rf), z = mvR ⟨s, r, c, a, b, false⟩ m n → bcond (!rightB z) (pure2 (.tuple [noRf.v, .int .i64 20]) []) (pure2 (.tuple [z.v, .int .i64 0]) []) = pure2 (.tuple [Rf.v (bcond (!rightB (mvR ⟨s, r, c, a, b, false⟩ m n)) noRf (mvR ⟨s, r, c, a, b, false⟩ m n)), .int .i64 (bcond (!rightB (mvR ⟨s, r, c, a, b, false⟩ m n)) 20 0)]) [] := fun z hz => by
          rw [← hz]; cases rightB z <;> rfl
        cases a with
        | true =>
          cases b with
          | true =>
            have h2 : rightB (mvR ⟨s, r, c, true, true, false⟩ m n) = true := h1
            rw [h2]; rfl
          | false => exact key _ rfl
        | false =>
          cases b with
          | true => exact key _ rfl
          | false => exact key _ rfl
  · trivial
def tab12 : Tab := (19, eMoved) :: tab11
theorem tab12_ok : TabOK Tryd.prog tab12 := .cons moved_ok tab11_ok
def tabG (F : Rf → Rf) : Tab := (11, entRef F) :: tab12
theorem tabG_ok : TabOK Tryd.prog (tabG refS) := .cons refOf_ok tab12_ok

/-- What is right stays so, if it stays on the sheet. -/
theorem right_iff {x : Rf} (h : rightB x = true) (hd : x.d = false) {r c : Int} {a b : Bool} : rightB ⟨x.s, r, c, a, b, false⟩ = decide (0 ≤ r ∧ r < 200 ∧ 0 ≤ c ∧ c < 52) := by
  unfold rightB at h ⊢
  rw [bcF hd, Bool.and_eq_true] at h
  show (bcond (!(x.s == [])) (sheetB x.s) true && decide (0 ≤ r ∧ r < 200 ∧ 0 ≤ c ∧ c < 52)) = _
  rw [h.1, Bool.true_and]
theorem right_gone {x : Rf} (h : rightB x = true) (hd : x.d = true) : x = ⟨[], 0, 0, false, false, true⟩ := by
  unfold rightB at h
  rw [bcT hd] at h
  simp only [Bool.and_eq_true, beq_iff_eq, Bool.and_true] at h
  obtain ⟨h1, h2, h3, h4, h5, h6⟩ := h
  cases x; simp only at *; subst h1; subst h2; subst h3; subst h4; subst h5; subst h6; rfl

end Go.Proofs.YtanhlbdcjonaoaaDoor
