/- Layer 1: the document's own powers are the program's. -/
import Derived.Test.YtmgiefeggkikcaaEnD
set_option linter.unusedVariables false
set_option linter.unusedSimpArgs false
namespace Go.Proofs.Ytmgiefeggkikcaa
open Go Sx Dc

theorem rpow_ok : EntOK Try.prog 21 (e1i fun a b n => R3 (powR a b n)) := fun args pre => by
  unfold e1i
  split
  · rename_i am ae n
    have e : Comes tabF lv21 21 [.agg [.int .i64 am, .int .i64 ae], .int .i64 n] []
      (.br (!rightB am ae) (.ret (R3 bad3) []) (.br (decide (n < -100)) (.ret (R3 (0, 0, 2)) []) (.br (decide (n > 100)) (.ret (R3 (0, 0, 2)) [])
        (.br (decide (-100 ≤ n ∧ n ≤ 100)) (.br ((powL am ae n.natAbs).2.2 == 0) (.br (decide (n < 0)) (.ret (R3 (divR 1 0 (lastX am ae n.natAbs).1 (lastX am ae n.natAbs).2)) [])
          (.ret (R3 ((lastX am ae n.natAbs).1, (lastX am ae n.natAbs).2, 0)) [])) (.ret (R3 (0, 0, (powL am ae n.natAbs).2.2)) [])) .fail)))) := by unfold Comes; kernel_rfl
    refine of_run (ans_comes tabF_ok e lv21_ok) fun x h => ?_
    have h : inI n = true ∧ pure2 (R3 (powR am ae n)) [] = some x := by
      simp only [Ans.chk, Ans.run] at h
      cases hi : inI n with
      | false => rw [hi] at h; cases h
      | true => rw [hi] at h; exact ⟨rfl, h⟩
    rw [← h.2]
    simp only [Ans.run]
    have key : ∀ b c : Int × Int × Int, b = c → pure2 (R3 b) [] = pure2 (R3 c) [] := fun b c e => by rw [e]
    by_cases hr : rightB am ae = true
    · rw [bcF (b := !rightB am ae) (by rw [hr]; rfl)]
      by_cases h1 : n < -100
      · rw [bcT (b := decide (n < -100)) (decide_eq_true h1)]
        exact key _ _ (by rw [powR, if_pos hr, if_pos (.inl h1)])
      · rw [bcF (b := decide (n < -100)) (decide_eq_false h1)]
        by_cases h2 : n > 100
        · rw [bcT (b := decide (n > 100)) (decide_eq_true h2)]
          exact key _ _ (by rw [powR, if_pos hr, if_pos (.inr h2)])
        · rw [bcF (b := decide (n > 100)) (decide_eq_false h2), bcT (b := decide (-100 ≤ n ∧ n ≤ 100)) (decide_eq_true (by omega))]
          have hp : powR am ae n = if (powL am ae n.natAbs).2.2 = 0 then (if n < 0 then divR 1 0 (powL am ae n.natAbs).1 (powL am ae n.natAbs).2.1 else ((powL am ae n.natAbs).1, (powL am ae n.natAbs).2.1, 0)) else (0, 0, (powL am ae n.natAbs).2.2) := by
            rw [powR, if_pos hr, if_neg (by omega)]
          by_cases h3 : (powL am ae n.natAbs).2.2 = 0
          · rw [bcT (b := _ == _) (beq_iff_eq.2 h3), lastX_ok h3]
            rw [if_pos h3] at hp
            by_cases h4 : n < 0
            · rw [bcT (b := decide (n < 0)) (decide_eq_true h4)]; exact key _ _ (by rw [hp, if_pos h4])
            · rw [bcF (b := decide (n < 0)) (decide_eq_false h4)]; exact key _ _ (by rw [hp, if_neg h4])
          · rw [bcF (b := _ == _) (beq_eq_false_iff_ne.2 h3)]
            rw [if_neg h3] at hp
            exact key _ _ hp.symm
    · rw [bcT (b := !rightB am ae) (by rw [Bool.not_eq_true] at hr; rw [hr]; rfl)]
      exact key _ _ (by rw [powR, if_neg hr])
  · trivial
theorem decOf_ok : EntOK Try.prog 18 (e1r fun a b => .agg [.int .i64 (decOfR a b).1, .int .i64 (decOfR a b).2]) := e1r_ok fun a b h1 h2 => decOf_meets a b (inI_iff.1 h1) (inI_iff.1 h2)
end Go.Proofs.Ytmgiefeggkikcaa
