/- Layer 2: RefAreas is so. -/
import Derived.Test.YtmblfgigchdnbaaDoorRdK
set_option linter.unusedVariables false
set_option linter.unusedSimpArgs false
namespace Go.Proofs.YtmblfgigchdnbaaDoor
open Go Sx

theorem erA_bad {X Y : Rf} {m : Int} (hm : 0 ≤ m ∧ m < 8) (hX : rightB X = true) (hY : rightB Y = true) (h : X.d = true ∨ Y.d = true) : erA X Y m = 20 := by
  unfold erA
  rw [bcF (decide_eq_false (by omega)), bcF (decide_eq_false (by omega)), hX, hY]
  rcases h with h | h
  · rw [h]; rfl
  · rw [h]; cases X.d <;> rfl
theorem erA_ok {X Y : Rf} {m : Int} (hm : 0 ≤ m ∧ m < 8) (hX : rightB X = true) (hY : rightB Y = true) (h1 : X.d = false) (h2 : Y.d = false) : erA X Y m = 0 := by
  unfold erA
  rw [bcF (decide_eq_false (by omega)), bcF (decide_eq_false (by omega)), hX, hY, h1, h2]; rfl
theorem plain_right {X : Rf} (k : 0 ≤ X.r ∧ X.r < 200 ∧ 0 ≤ X.c ∧ X.c < 52) : rightB (plainR X) = true := by
  unfold rightB plainR
  simp only [bcond, beq_self_eq_true, Bool.not_true, Bool.true_and, decide_eq_true_eq]; exact k
theorem arT_true (X Y : Rf) (m R C : Int) (hm : 0 ≤ m ∧ m < 8) (hX : rightB X = true) (hY : rightB Y = true) (h1 : X.d = false) (h2 : Y.d = false) (hR : max X.r Y.r + 1 - min X.r Y.r = IntKind.i64.wrap (R + 1)) (hC : max X.c Y.c + 1 - min X.c Y.c = IntKind.i64.wrap (C + 1)) : (arT X Y m R C).run pure2 = some (.bool true, []) := by
  unfold arT
  simp only [Ans.run]
  have k1 := right_bd hX h1
  have k2 := right_bd hY h2
  have hZ := plain_right k1
  have e1 := erA_ok hm hX hY h1 h2
  have e2 := erA_ok hm hY hX h2 h1
  have e3 := erA_ok hm hZ hY rfl h2
  have a1 : arA X Y m = arM X Y m := by unfold arA; rw [e1]; rfl
  have a2 : arA Y X m = arM X Y m := by unfold arA; rw [e2]; simp only [beq_self_eq_true, bcond, arM, Int.max_comm, Int.min_comm]
  have a3 : arA (plainR X) Y m = arM X Y m := by unfold arA; rw [e3]; rfl
  have w3 : IntKind.i64.wrap (7 - m) = 7 - m := i64_in (by omega) (by omega)
  have hin : (arM X Y m).inB = true := by rw [Ar.in_iff]; simp only [arM]; omega
  have hok : (arM X Y m).ok = true := by rw [Ar.ok_iff]; simp only [arM]; omega
  have b1 : hasB (arM X Y m) m X.r X.c = true := by
    unfold hasB; rw [hok, Bool.true_and, Bool.and_eq_true, decide_eq_true_eq]; exact ⟨beq_iff_eq.2 rfl, by simp only [arM]; omega⟩
  have b2 : hasB (arM X Y m) m Y.r Y.c = true := by
    unfold hasB; rw [hok, Bool.true_and, Bool.and_eq_true, decide_eq_true_eq]; exact ⟨beq_iff_eq.2 rfl, by simp only [arM]; omega⟩
  have b3 : hasB (arM X Y m) (7 - m) X.r X.c = false := by
    unfold hasB
    have : ((arM X Y m).s == 7 - m) = false := beq_eq_false_iff_ne.2 (by show m ≠ 7 - m; omega)
    rw [this, Bool.and_false, Bool.false_and]
  have f1 : ((arM X Y m).h == IntKind.i64.wrap (R + 1)) = true := beq_iff_eq.2 hR
  have f2 : ((arM X Y m).w == IntKind.i64.wrap (C + 1)) = true := beq_iff_eq.2 hC
  simp only [e1, e2, e3, a1, a2, a3, beq_self_eq_true, Bool.and_true, bcond, w3, hin, b1, b2, b3, f1, f2, Bool.not_false]
  rfl

theorem areas_law (s s2 : List UInt8) (r c r2 c2 n : Int) (a b d a2 b2 d2 : Bool) (g1 : inI r = true) (g2 : inI c = true) (g3 : s.length ≤ 9223372036854775807) (g4 : inI r2 = true) (g5 : inI c2 = true) (g6 : s2.length ≤ 9223372036854775807) (g7 : inI n = true) :
    Meets Tryd.prog 8 [.agg [.str s, .int .i64 r, .int .i64 c, .bool a, .bool b, .bool d], .agg [.str s2, .int .i64 r2, .int .i64 c2, .bool a2, .bool b2, .bool d2], .int .i64 n] [] (.bool true) [] := by
  have e1 : (inI r && inI c && decide (s.length ≤ 9223372036854775807)) = true := by rw [g1, g2, decide_eq_true g3]; rfl
  have e2 : (inI r2 && inI c2 && decide (s2.length ≤ 9223372036854775807)) = true := by rw [g4, g5, decide_eq_true g6]; rfl
  have e3 : (inI n && decide ((0 : Int) < 8)) = true := by rw [g7]; rfl
  have hf := area_first refS s s2 r c r2 c2 n a b d a2 b2 d2
  rw [bcT e1, bcT e2, bcT e3] at hf
  have hX := refS_right ⟨s, r, c, a, b, d⟩
  have hY := refS_right ⟨s2, r2, c2, a2, b2, d2⟩
  have hm := pickS_bd (a := n) (n := 8) (by omega)
  generalize refS ⟨s, r, c, a, b, d⟩ = X at hf hX
  generalize refS ⟨s2, r2, c2, a2, b2, d2⟩ = Y at hf hY
  generalize pickS n 8 = m at hf hm
  have hbody : Tryd.f8.body = some (bodyOf Tryd.f8) := by kernel_rfl
  have done : ∀ {ex st}, firT X Y m = some (ex, st) → goOn (ent Tryd.prog (tabF refS) nolv 64 18446744073709551616 30) Tryd.prog (nolv 8) Tryd.f8 [] 64 18446744073709551616 14 (bodyOf Tryd.f8) pure2 ex st = some (.bool true, []) →
      Meets Tryd.prog 8 [.agg [.str s, .int .i64 r, .int .i64 c, .bool a, .bool b, .bool d], .agg [.str s2, .int .i64 r2, .int .i64 c2, .bool a2, .bool b2, .bool d2], .int .i64 n] [] (.bool true) [] := fun {ex st} h1 h2 => by
    obtain ⟨res, post, k1, k2⟩ := meets_cut (pre := []) tabF_ok host Tryd.func8 hbody (hf.trans h1) h2
    cases k2; exact k1
  by_cases hb : X.d = true ∨ Y.d = true
  · have x1 := erA_bad hm hX hY hb
    have x2 := erA_bad hm hY hX hb.symm
    have a1 : arA X Y m = ⟨0, 0, 0, 0, 0⟩ := by unfold arA; rw [x1]; rfl
    have hg : firT X Y m = some (.ret, finA8 true) := by
      have hgo : goneT X Y m = some (.ret, finA8 true) := by unfold goneT; rw [x1, x2, a1]; rfl
      unfold firT
      rcases hb with h | h
      · rw [bcT h]; exact hgo
      · rw [bcT h]; cases X.d <;> exact hgo
    exact done hg (by kernel_rfl)
  · have h1 : X.d = false := by cases h : X.d with | false => rfl | true => exact absurd (.inl h) hb
    have h2 : Y.d = false := by cases h : Y.d with | false => rfl | true => exact absurd (.inr h) hb
    have k1 := right_bd hX h1
    have k2 := right_bd hY h2
    have w1 : wr (X.r - Y.r) = X.r - Y.r := i64_in (by omega) (by omega)
    have w2 : wr (X.c - Y.c) = X.c - Y.c := i64_in (by omega) (by omega)
    have w4 : wr (0 - (X.r - Y.r)) = 0 - (X.r - Y.r) := i64_in (by omega) (by omega)
    have w5 : wr (0 - (X.c - Y.c)) = 0 - (X.c - Y.c) := i64_in (by omega) (by omega)
    have w6 : IntKind.i64.wrap (X.r - Y.r + 1) = X.r - Y.r + 1 := i64_in (by omega) (by omega)
    have w7 : IntKind.i64.wrap (X.c - Y.c + 1) = X.c - Y.c + 1 := i64_in (by omega) (by omega)
    have w8 : IntKind.i64.wrap (0 - (X.r - Y.r) + 1) = 0 - (X.r - Y.r) + 1 := i64_in (by omega) (by omega)
    have w9 : IntKind.i64.wrap (0 - (X.c - Y.c) + 1) = 0 - (X.c - Y.c) + 1 := i64_in (by omega) (by omega)
    have hfin : ∀ R C, max X.r Y.r + 1 - min X.r Y.r = IntKind.i64.wrap (R + 1) → max X.c Y.c + 1 - min X.c Y.c = IntKind.i64.wrap (C + 1) → firT X Y m = some (.normal, stA X Y m R C) → Meets Tryd.prog 8 [.agg [.str s, .int .i64 r, .int .i64 c, .bool a, .bool b, .bool d], .agg [.str s2, .int .i64 r2, .int .i64 c2, .bool a2, .bool b2, .bool d2], .int .i64 n] [] (.bool true) [] := fun R C q1 q2 q3 =>
      done q3 ((area_rest refS X Y m R C).trans (arT_true X Y m R C hm hX hY h1 h2 q1 q2))
    have hu : firT X Y m = (bcond (decide (X.r - Y.r < 0)) (bcond (decide (X.c - Y.c < 0)) (some (.normal, stA X Y m (0 - (X.r - Y.r)) (0 - (X.c - Y.c)))) (some (.normal, stA X Y m (0 - (X.r - Y.r)) (X.c - Y.c))))
      (bcond (decide (X.c - Y.c < 0)) (some (.normal, stA X Y m (X.r - Y.r) (0 - (X.c - Y.c)))) (some (.normal, stA X Y m (X.r - Y.r) (X.c - Y.c))))) := by
      unfold firT; rw [bcF h1, bcF h2, w1, w2, w4, w5]
    by_cases c1 : X.r - Y.r < 0
    · rw [bcT (decide_eq_true c1)] at hu
      by_cases c2 : X.c - Y.c < 0
      · rw [bcT (decide_eq_true c2)] at hu; exact hfin _ _ (by rw [w8]; omega) (by rw [w9]; omega) hu
      · rw [bcF (decide_eq_false c2)] at hu; exact hfin _ _ (by rw [w8]; omega) (by rw [w7]; omega) hu
    · rw [bcF (decide_eq_false c1)] at hu
      by_cases c2 : X.c - Y.c < 0
      · rw [bcT (decide_eq_true c2)] at hu; exact hfin _ _ (by rw [w6]; omega) (by rw [w9]; omega) hu
      · rw [bcF (decide_eq_false c2)] at hu; exact hfin _ _ (by rw [w6]; omega) (by rw [w7]; omega) hu

end Go.Proofs.YtmblfgigchdnbaaDoor
