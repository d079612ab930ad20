/- Layer 2: RefEdges is so. -/
import Derived.Test.YtmblfgigchdnbaaDoorRdN
set_option linter.unusedVariables false
set_option linter.unusedSimpArgs false
namespace Go.Proofs.YtmblfgigchdnbaaDoor
open Go Sx

theorem mv_in {X : Rf} (hX : rightB X = true) (hd : X.d = false) (ha : X.a = false) (hb : X.b = false) {u v : Int} (h : 0 ≤ X.r + u ∧ X.r + u < 200 ∧ 0 ≤ X.c + v ∧ X.c + v < 52) : erM X u v = 0 ∧ mvO X u v = ⟨X.s, X.r + u, X.c + v, false, false, false⟩ := by
  have hm : mvR X u v = ⟨X.s, X.r + u, X.c + v, false, false, false⟩ := by
    show (⟨X.s, bcond (!X.a) (IntKind.i64.wrap (X.r + u)) X.r, bcond (!X.b) (IntKind.i64.wrap (X.c + v)) X.c, X.a, X.b, X.d⟩ : Rf) = _
    rw [ha, hb, hd, i64_in (n := X.r + u) (by omega) (by omega), i64_in (n := X.c + v) (by omega) (by omega)]; rfl
  have hr : rightB (mvR X u v) = true := by rw [hm, right_iff hX hd, decide_eq_true h]
  exact ⟨by unfold erM; rw [hX, hd, hr]; rfl, by unfold mvO; rw [hX, hd, hr, ← hm]; rfl⟩
theorem mv_out {X : Rf} (hX : rightB X = true) (hd : X.d = false) (ha : X.a = false) (hb : X.b = false) {u v : Int} (hu : -1000 ≤ X.r + u ∧ X.r + u ≤ 1000) (hv : -1000 ≤ X.c + v ∧ X.c + v ≤ 1000) (h : ¬ (0 ≤ X.r + u ∧ X.r + u < 200 ∧ 0 ≤ X.c + v ∧ X.c + v < 52)) : erM X u v = 20 := by
  have hm : mvR X u v = ⟨X.s, X.r + u, X.c + v, false, false, false⟩ := by
    show (⟨X.s, bcond (!X.a) (IntKind.i64.wrap (X.r + u)) X.r, bcond (!X.b) (IntKind.i64.wrap (X.c + v)) X.c, X.a, X.b, X.d⟩ : Rf) = _
    rw [ha, hb, hd, i64_in (n := X.r + u) (by omega) (by omega), i64_in (n := X.c + v) (by omega) (by omega)]; rfl
  have hr : rightB (mvR X u v) = false := by rw [hm, right_iff hX hd, decide_eq_false h]
  unfold erM; rw [hX, hd, hr]; rfl

theorem edgT_true (X : Rf) (A : Ar) (hX : rightB X = true) (hd : X.d = false) (ha : X.a = false) (hb : X.b = false)
    (hA : 0 ≤ A.s ∧ A.s < 2 ∧ 0 ≤ A.r ∧ 1 ≤ A.h ∧ A.h ≤ 200 - A.r ∧ 0 ≤ A.c ∧ 1 ≤ A.w ∧ A.w ≤ 52 - A.c) : (edgT X A true).run pure2 = some (.bool true, []) := by
  unfold edgT
  simp only [Ans.run]
  have k := right_bd hX hd
  have w1 : IntKind.i64.wrap (0 - X.r) = 0 - X.r := i64_in (by omega) (by omega)
  have w2 : IntKind.i64.wrap (0 - X.c) = 0 - X.c := i64_in (by omega) (by omega)
  have w3 : IntKind.i64.wrap (199 - X.r) = 199 - X.r := i64_in (by omega) (by omega)
  have w4 : IntKind.i64.wrap (51 - X.c) = 51 - X.c := i64_in (by omega) (by omega)
  have w5 : IntKind.i64.wrap (0 - X.r - 1) = 0 - X.r - 1 := i64_in (by omega) (by omega)
  have w6 : IntKind.i64.wrap (52 - X.c) = 52 - X.c := i64_in (by omega) (by omega)
  have w7 : IntKind.i64.wrap (200 - X.r) = 200 - X.r := i64_in (by omega) (by omega)
  have w8 : IntKind.i64.wrap (0 - X.c - 1) = 0 - X.c - 1 := i64_in (by omega) (by omega)
  have v1 : IntKind.i64.wrap (52 - A.c) = 52 - A.c := i64_in (by omega) (by omega)
  have v2 : IntKind.i64.wrap (200 - A.r) = 200 - A.r := i64_in (by omega) (by omega)
  have v3 : IntKind.i64.wrap (52 - A.c + 1) = 52 - A.c + 1 := i64_in (by omega) (by omega)
  have v4 : IntKind.i64.wrap (200 - A.r + 1) = 200 - A.r + 1 := i64_in (by omega) (by omega)
  have m1 := mv_in hX hd ha hb (u := 0 - X.r) (v := 0 - X.c) (by omega)
  have m2 := mv_in hX hd ha hb (u := 199 - X.r) (v := 51 - X.c) (by omega)
  have m3 := mv_out hX hd ha hb (u := 0 - X.r - 1) (v := 0) (by omega) (by omega) (by omega)
  have m4 := mv_out hX hd ha hb (u := 0) (v := 52 - X.c) (by omega) (by omega) (by omega)
  have m5 := mv_out hX hd ha hb (u := 200 - X.r) (v := 0) (by omega) (by omega) (by omega)
  have m6 := mv_out hX hd ha hb (u := 0) (v := 0 - X.c - 1) (by omega) (by omega) (by omega)
  have z1 : (IntKind.i64.wrap (X.r + (0 - X.r) + (X.c + (0 - X.c))) != 0) = false := by
    rw [show X.r + (0 - X.r) + (X.c + (0 - X.c)) = 0 by omega]; rfl
  have z2 : (X.r + (199 - X.r) != 199) = false := by rw [show X.r + (199 - X.r) = 199 by omega]; rfl
  have z3 : (X.c + (51 - X.c) != 51) = false := by rw [show X.c + (51 - X.c) = 51 by omega]; rfl
  have i0 : A.inB = true := Ar.in_iff.2 (by omega)
  have i1 : Ar.inB ⟨A.s, A.r, A.c, A.h, 52 - A.c⟩ = true := Ar.in_iff.2 (by simp only; omega)
  have i2 : Ar.inB ⟨A.s, A.r, A.c, 200 - A.r, A.w⟩ = true := Ar.in_iff.2 (by simp only; omega)
  have i3 : Ar.inB ⟨A.s, A.r, A.c, A.h, 52 - A.c + 1⟩ = true := Ar.in_iff.2 (by simp only; omega)
  have i4 : Ar.inB ⟨A.s, A.r, A.c, 200 - A.r + 1, A.w⟩ = true := Ar.in_iff.2 (by simp only; omega)
  have o0 : A.ok = true := Ar.ok_iff.2 (by omega)
  have o1 : Ar.ok ⟨A.s, A.r, A.c, A.h, 52 - A.c⟩ = true := Ar.ok_iff.2 (by simp only; omega)
  have o2 : Ar.ok ⟨A.s, A.r, A.c, 200 - A.r, A.w⟩ = true := Ar.ok_iff.2 (by simp only; omega)
  have o3 : Ar.ok ⟨A.s, A.r, A.c, A.h, 52 - A.c + 1⟩ = false := by
    rw [← Bool.not_eq_true, Ar.ok_iff]; simp only; omega
  have o4 : Ar.ok ⟨A.s, A.r, A.c, 200 - A.r + 1, A.w⟩ = false := by
    rw [← Bool.not_eq_true, Ar.ok_iff]; simp only; omega
  have q1 : meetM A ⟨A.s, A.r, A.c, A.h, 52 - A.c⟩ = A := by
    show (⟨A.s, max A.r A.r, max A.c A.c, min (A.r + A.h) (A.r + A.h) - max A.r A.r, min (A.c + A.w) (A.c + (52 - A.c)) - max A.c A.c⟩ : Ar) = A
    rw [show max A.r A.r = A.r by omega, show max A.c A.c = A.c by omega, show min (A.r + A.h) (A.r + A.h) - A.r = A.h by omega, show min (A.c + A.w) (A.c + (52 - A.c)) - A.c = A.w by omega]
  have q2 : meetM A ⟨A.s, A.r, A.c, 200 - A.r, A.w⟩ = A := by
    show (⟨A.s, max A.r A.r, max A.c A.c, min (A.r + A.h) (A.r + (200 - A.r)) - max A.r A.r, min (A.c + A.w) (A.c + A.w) - max A.c A.c⟩ : Ar) = A
    rw [show max A.r A.r = A.r by omega, show max A.c A.c = A.c by omega, show min (A.r + A.h) (A.r + (200 - A.r)) - A.r = A.h by omega, show min (A.c + A.w) (A.c + A.w) - A.c = A.w by omega]
  have b1 : meetB A ⟨A.s, A.r, A.c, A.h, 52 - A.c⟩ = true := by unfold meetB; rw [o0, o1, q1, o0]; simp
  have b2 : meetB A ⟨A.s, A.r, A.c, 200 - A.r, A.w⟩ = true := by unfold meetB; rw [o0, o2, q2, o0]; simp
  have b3 : meetB A ⟨A.s, A.r, A.c, A.h, 52 - A.c + 1⟩ = false := by unfold meetB; rw [o3]; simp
  have b4 : meetB ⟨A.s, A.r, A.c, 200 - A.r + 1, A.w⟩ A = false := by unfold meetB; rw [o4]; simp
  have a1 : meetA A ⟨A.s, A.r, A.c, A.h, 52 - A.c⟩ = A := by unfold meetA; rw [if_pos b1, q1]
  have a2 : meetA A ⟨A.s, A.r, A.c, 200 - A.r, A.w⟩ = A := by unfold meetA; rw [if_pos b2, q2]
  have h1 : hasB ⟨A.s, A.r, A.c, 200 - A.r + 1, A.w⟩ A.s A.r A.c = false := by unfold hasB; rw [o4]; simp
  simp only [w1, w2, w3, w4, w5, w6, w7, w8, v1, v2, v3, v4, m1.1, m1.2, m2.1, m2.2, m3, m4, m5, m6, z1, z2, z3, i0, i1, i2, i3, i4, b1, b2, b3, b4, a1, a2, h1, beq_self_eq_true]
  rfl

theorem edges_law (s : List UInt8) (r c y0 y1 y2 y3 y4 : Int) (a b d : Bool) (g1 : inI r = true) (g2 : inI c = true) (g3 : s.length ≤ 9223372036854775807) (g4 : Ar.inB ⟨y0, y1, y2, y3, y4⟩ = true) :
    Meets Tryd.prog 9 [.agg [.str s, .int .i64 r, .int .i64 c, .bool a, .bool b, .bool d], .agg [.int .i64 y0, .int .i64 y1, .int .i64 y2, .int .i64 y3, .int .i64 y4]] [] (.bool true) [] := by
  have := ans_comes tabG_ok (edgT_comes refS s r c y0 y1 y2 y3 y4 a b d)
  obtain ⟨res, post, k1, k2⟩ := Ans.sound (k := pure2) (r := (.bool true, [])) _ this (by
    have e1 : (inI r && inI c && decide (s.length ≤ 9223372036854775807)) = true := by rw [g1, g2, decide_eq_true g3]; rfl
    rw [Ans.run, bcT e1, g4]
    exact edgT_true _ _ (refS_right _) rfl rfl rfl (areaS_bd _))
  cases k2; exact k1

end Go.Proofs.YtmblfgigchdnbaaDoor
