/- Layer 2: RefMoved is so. -/
import Derived.Test.YtmblfgigchdnbaaDoorRdM
set_option linter.unusedVariables false
set_option linter.unusedSimpArgs false
namespace Go.Proofs.YtmblfgigchdnbaaDoor
open Go Sx

theorem movT_true (X : Rf) (m n x y p q : Int) (hX : rightB X = true) (hm : -50 ≤ m ∧ m ≤ 50) (hn : -20 ≤ n ∧ n ≤ 20) (hx : -50 ≤ x ∧ x ≤ 50) (hy : -20 ≤ y ∧ y ≤ 20) (hp : inI p = true) (hq : inI q = true) : (movT X m n x y p q).run pure2 = some (.bool true, []) := by
  unfold movT
  simp only [Ans.run]
  have wm : IntKind.i64.wrap (0 - m) = 0 - m := i64_in (by omega) (by omega)
  have wn : IntKind.i64.wrap (0 - n) = 0 - n := i64_in (by omega) (by omega)
  have wx : IntKind.i64.wrap (m + x) = m + x := i64_in (by omega) (by omega)
  have wy : IntKind.i64.wrap (n + y) = n + y := i64_in (by omega) (by omega)
  have g1 : (inI p && decide ((0 : Int) < 101)) = true := by rw [hp]; rfl
  have g2 : (inI q && decide ((0 : Int) < 41)) = true := by rw [hq]; rfl
  rw [wm, wn, wx, wy, g1, g2]
  cases hd : X.d with
  | true =>
    have hz := right_gone hX hd
    subst hz
    have er : ∀ m n, erM ⟨[], 0, 0, false, false, true⟩ m n = 0 := fun m n => rfl
    have mo : ∀ m n, mvO ⟨[], 0, 0, false, false, true⟩ m n = ⟨[], 0, 0, false, false, true⟩ := fun m n => rfl
    simp only [er, mo]
    rfl
  | false =>
    have k1 := right_bd hX hd
    cases hR : rightB (mvR X m n) with
    | false =>
      have e1 : erM X m n = 20 := by unfold erM; rw [hX, hd, hR]; rfl
      have o1 : mvO X m n = noRf := by unfold mvO; rw [hX, hd, hR]; rfl
      rw [e1, o1]; rfl
    | true =>
      have hPd : (mvR X m n).d = false := hd
      have w1 : IntKind.i64.wrap (X.r + m) = X.r + m := i64_in (by omega) (by omega)
      have w2 : IntKind.i64.wrap (X.c + n) = X.c + n := i64_in (by omega) (by omega)
      have w3 : IntKind.i64.wrap (X.r + m + (0 - m)) = X.r := by rw [i64_in (by omega) (by omega)]; omega
      have w4 : IntKind.i64.wrap (X.c + n + (0 - n)) = X.c := by rw [i64_in (by omega) (by omega)]; omega
      have e1 : erM X m n = 0 := by unfold erM; rw [hX, hd, hR]; rfl
      have o1 : mvO X m n = mvR X m n := by unfold mvO; rw [hX, hd, hR]; rfl
      have back : mvR (mvR X m n) (0 - m) (0 - n) = X := by
        have hA : bcond (!X.a) (IntKind.i64.wrap (bcond (!X.a) (IntKind.i64.wrap (X.r + m)) X.r + (0 - m))) (bcond (!X.a) (IntKind.i64.wrap (X.r + m)) X.r) = X.r := by
          rw [w1]; cases X.a
          · exact w3
          · rfl
        have hB : bcond (!X.b) (IntKind.i64.wrap (bcond (!X.b) (IntKind.i64.wrap (X.c + n)) X.c + (0 - n))) (bcond (!X.b) (IntKind.i64.wrap (X.c + n)) X.c) = X.c := by
          rw [w2]; cases X.b
          · exact w4
          · rfl
        show (⟨X.s, bcond (!X.a) (IntKind.i64.wrap (bcond (!X.a) (IntKind.i64.wrap (X.r + m)) X.r + (0 - m))) (bcond (!X.a) (IntKind.i64.wrap (X.r + m)) X.r), bcond (!X.b) (IntKind.i64.wrap (bcond (!X.b) (IntKind.i64.wrap (X.c + n)) X.c + (0 - n))) (bcond (!X.b) (IntKind.i64.wrap (X.c + n)) X.c), X.a, X.b, X.d⟩ : Rf) = X
        rw [hA, hB]
      have two : mvR (mvR X m n) x y = mvR X (m + x) (n + y) := by
        have hA : bcond (!X.a) (IntKind.i64.wrap (bcond (!X.a) (IntKind.i64.wrap (X.r + m)) X.r + x)) (bcond (!X.a) (IntKind.i64.wrap (X.r + m)) X.r) = bcond (!X.a) (IntKind.i64.wrap (X.r + (m + x))) X.r := by
          rw [w1]; cases X.a
          · show IntKind.i64.wrap (X.r + m + x) = IntKind.i64.wrap (X.r + (m + x)); rw [Int.add_assoc]
          · rfl
        have hB : bcond (!X.b) (IntKind.i64.wrap (bcond (!X.b) (IntKind.i64.wrap (X.c + n)) X.c + y)) (bcond (!X.b) (IntKind.i64.wrap (X.c + n)) X.c) = bcond (!X.b) (IntKind.i64.wrap (X.c + (n + y))) X.c := by
          rw [w2]; cases X.b
          · show IntKind.i64.wrap (X.c + n + y) = IntKind.i64.wrap (X.c + (n + y)); rw [Int.add_assoc]
          · rfl
        show (⟨X.s, bcond (!X.a) (IntKind.i64.wrap (bcond (!X.a) (IntKind.i64.wrap (X.r + m)) X.r + x)) (bcond (!X.a) (IntKind.i64.wrap (X.r + m)) X.r), bcond (!X.b) (IntKind.i64.wrap (bcond (!X.b) (IntKind.i64.wrap (X.c + n)) X.c + y)) (bcond (!X.b) (IntKind.i64.wrap (X.c + n)) X.c), X.a, X.b, X.d⟩ : Rf) = _
        rw [hA, hB]; rfl
      have e2 : erM (mvR X m n) (0 - m) (0 - n) = 0 := by unfold erM; rw [back, hR, hPd, hX]; rfl
      have o2 : mvO (mvR X m n) (0 - m) (0 - n) = X := by unfold mvO; rw [back, hR, hPd, hX]; rfl
      have e3 : erM (mvR X m n) x y = erM X (m + x) (n + y) := by unfold erM; rw [two, hR, hPd, hX, hd]
      have o3 : mvO (mvR X m n) x y = mvO X (m + x) (n + y) := by unfold mvO; rw [two, hR, hPd, hX, hd]; rfl
      simp only [e1, o1, e2, o2, e3, o3, beq_self_eq_true, bne_self_eq_false, Bool.and_true, Bool.not_true]
      have ra : X.a = true → (mvR X m n).r = X.r := fun h => by show bcond (!X.a) _ _ = _; rw [h]; rfl
      have rb : X.a = false → (mvR X m n).r = IntKind.i64.wrap (X.r + m) := fun h => by show bcond (!X.a) _ _ = _; rw [h]; rfl
      have ca : X.b = true → (mvR X m n).c = X.c := fun h => by show bcond (!X.b) _ _ = _; rw [h]; rfl
      have cb : X.b = false → (mvR X m n).c = IntKind.i64.wrap (X.c + n) := fun h => by show bcond (!X.b) _ _ = _; rw [h]; rfl
      have hs : (mvR X m n).s = X.s := rfl
      cases ha : X.a with
      | true =>
        cases hb : X.b with
        | true => simp only [ra ha, ca hb, hs, hd, beq_self_eq_true, bcond]; rfl
        | false => simp only [ra ha, cb hb, hs, hd, beq_self_eq_true, bcond, Bool.not_false]; rfl
      | false =>
        cases hb : X.b with
        | true => simp only [rb ha, ca hb, hs, hd, beq_self_eq_true, bcond, Bool.not_false]; rfl
        | false => simp only [rb ha, cb hb, hs, hd, beq_self_eq_true, bcond, Bool.not_false]; rfl

theorem moved_law (s : List UInt8) (r c u v p q : Int) (a b d : Bool) (g1 : inI r = true) (g2 : inI c = true) (g3 : s.length ≤ 9223372036854775807) (g4 : inI u = true) (g5 : inI v = true) (g6 : inI p = true) (g7 : inI q = true) :
    Meets Tryd.prog 6 [.agg [.str s, .int .i64 r, .int .i64 c, .bool a, .bool b, .bool d], .int .i64 u, .int .i64 v, .int .i64 p, .int .i64 q] [] (.bool true) [] := by
  have := ans_comes tabG_ok (movT_comes refS s r c u v p q a b d)
  obtain ⟨res, post, k1, k2⟩ := Ans.sound (k := pure2) (r := (.bool true, [])) _ this (by
    have e1 : (inI r && inI c && decide (s.length ≤ 9223372036854775807)) = true := by rw [g1, g2, decide_eq_true g3]; rfl
    have e2 : (inI u && decide ((0 : Int) < 101)) = true := by rw [g4]; rfl
    have e3 : (inI v && decide ((0 : Int) < 41)) = true := by rw [g5]; rfl
    have h1 := pickS_bd (a := u) (n := 101) (by omega)
    have h2 := pickS_bd (a := v) (n := 41) (by omega)
    have h3 := pickS_bd (a := p) (n := 101) (by omega)
    have h4 := pickS_bd (a := q) (n := 41) (by omega)
    rw [Ans.run, bcT e1, Ans.run, bcT e2, Ans.run, bcT e3]
    rw [i64_in (n := pickS u 101 - 50) (by omega) (by omega), i64_in (n := pickS v 41 - 20) (by omega) (by omega), i64_in (n := pickS p 101 - 50) (by omega) (by omega), i64_in (n := pickS q 41 - 20) (by omega) (by omega)]
    exact movT_true _ _ _ _ _ _ _ (refS_right _) (by omega) (by omega) (by omega) (by omega) g6 g7)
  cases k2; exact k1

end Go.Proofs.YtmblfgigchdnbaaDoor
