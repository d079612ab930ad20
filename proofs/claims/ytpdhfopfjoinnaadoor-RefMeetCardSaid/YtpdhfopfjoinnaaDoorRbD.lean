/- Layer 2: RefMeet is so. -/
import Derived.Test.YtpdhfopfjoinnaaDoorRbC
set_option linter.unusedVariables false
set_option linter.unusedSimpArgs false
namespace Go.Proofs.YtpdhfopfjoinnaaDoor
open Go Sx

/-- An area as RefArea makes it. -/
def Ar.fine (x : Ar) : Prop := 0 ≤ x.s ∧ x.s < 2 ∧ 0 ≤ x.r ∧ 1 ≤ x.h ∧ x.h ≤ 200 - x.r ∧ 0 ≤ x.c ∧ 1 ≤ x.w ∧ x.w ≤ 52 - x.c
theorem Ar.fine_ok {x : Ar} (h : x.fine) : x.ok = true := by rw [Ar.ok_iff]; unfold Ar.fine at h; omega
theorem Ar.fine_in {x : Ar} (h : x.fine) : x.inB = true := by rw [Ar.in_iff]; unfold Ar.fine at h; omega
theorem Ar.ext' {x y : Ar} (h1 : x.s = y.s) (h2 : x.r = y.r) (h3 : x.c = y.c) (h4 : x.h = y.h) (h5 : x.w = y.w) : x = y := by cases x; cases y; simp_all

theorem meetB_iff {x y : Ar} (hx : x.fine) (hy : y.fine) : meetB x y = true ↔ x.s = y.s ∧ max x.r y.r < min (x.r + x.h) (y.r + y.h) ∧ max x.c y.c < min (x.c + x.w) (y.c + y.w) := by
  simp only [meetB, Ar.fine_ok hx, Ar.fine_ok hy, Bool.true_and, Bool.and_eq_true, beq_iff_eq, Ar.ok_iff, meetM]
  unfold Ar.fine at hx hy
  omega
theorem meetM_fine {x y : Ar} (hx : x.fine) (hy : y.fine) (h : meetB x y = true) : (meetM x y).fine := by
  rw [meetB_iff hx hy] at h
  unfold Ar.fine at hx hy ⊢
  simp only [meetM]; omega
theorem meetA_t {x y : Ar} (h : meetB x y = true) : meetA x y = meetM x y := by simp [meetA, h]
theorem meetA_f {x y : Ar} (h : meetB x y = false) : meetA x y = ⟨0, 0, 0, 0, 0⟩ := by simp [meetA, h]
theorem meetB_comm {x y : Ar} (hx : x.fine) (hy : y.fine) : meetB y x = meetB x y := by
  rw [Bool.eq_iff_iff, meetB_iff hx hy, meetB_iff hy hx]; omega
theorem meetA_comm {x y : Ar} (hx : x.fine) (hy : y.fine) : meetA y x = meetA x y := by
  cases h : meetB x y with
  | false => rw [meetA_f h, meetA_f (by rw [meetB_comm hx hy, h])]
  | true =>
    rw [meetA_t h, meetA_t (by rw [meetB_comm hx hy, h])]
    rw [meetB_iff hx hy] at h
    refine Ar.ext' ?_ ?_ ?_ ?_ ?_ <;> simp only [meetM] <;> omega
theorem meetB_self {x : Ar} (hx : x.fine) : meetB x x = true := by
  rw [meetB_iff hx hx]; unfold Ar.fine at hx; omega
theorem meetA_self {x : Ar} (hx : x.fine) : meetA x x = x := by
  rw [meetA_t (meetB_self hx)]
  unfold Ar.fine at hx
  refine Ar.ext' ?_ ?_ ?_ ?_ ?_ <;> simp only [meetM] <;> omega
theorem hasB_iff {x : Ar} (hx : x.fine) {s r c : Int} : hasB x s r c = true ↔ x.s = s ∧ x.r ≤ r ∧ r < x.r + x.h ∧ x.c ≤ c ∧ c < x.c + x.w := by
  simp [hasB, Ar.fine_ok hx]
theorem hasB_zero {s r c : Int} : hasB ⟨0, 0, 0, 0, 0⟩ s r c = false := by
  simp [hasB, Ar.ok]
theorem hasB_meet {x y : Ar} (hx : x.fine) (hy : y.fine) {s r c : Int} : hasB (meetA x y) s r c = (hasB x s r c && hasB y s r c) := by
  rw [Bool.eq_iff_iff, Bool.and_eq_true, hasB_iff hx, hasB_iff hy]
  cases h : meetB x y with
  | false =>
    rw [meetA_f h, hasB_zero]
    have : ¬ meetB x y = true := by rw [h]; simp
    rw [meetB_iff hx hy] at this
    simp only [Bool.false_eq_true, false_iff]
    omega
  | true =>
    rw [meetA_t h, hasB_iff (meetM_fine hx hy h)]
    rw [meetB_iff hx hy] at h
    simp only [meetM]; omega
theorem zero_in : (⟨0, 0, 0, 0, 0⟩ : Ar).inB = true := by decide
theorem meetA_in {x y : Ar} (hx : x.fine) (hy : y.fine) : (meetA x y).inB = true := by
  cases h : meetB x y with
  | false => rw [meetA_f h]; exact zero_in
  | true => rw [meetA_t h]; exact Ar.fine_in (meetM_fine hx hy h)
theorem meet_zero {x : Ar} : meetB x ⟨0, 0, 0, 0, 0⟩ = false := by simp [meetB, Ar.ok]
theorem meetM_bot (x y : Ar) : (meetM x y).r + (meetM x y).h = min (x.r + x.h) (y.r + y.h) := by
  show max x.r y.r + (min (x.r + x.h) (y.r + y.h) - max x.r y.r) = _
  generalize max x.r y.r = a
  generalize min (x.r + x.h) (y.r + y.h) = b
  omega
theorem meetM_right (x y : Ar) : (meetM x y).c + (meetM x y).w = min (x.c + x.w) (y.c + y.w) := by
  show max x.c y.c + (min (x.c + x.w) (y.c + y.w) - max x.c y.c) = _
  generalize max x.c y.c = a
  generalize min (x.c + x.w) (y.c + y.w) = b
  omega
theorem meetB_three {x y z : Ar} (hx : x.fine) (hy : y.fine) (hz : z.fine) (h : meetB x y = true) : meetB (meetA x y) z = (meetB y z && meetB x (meetA y z)) := by
  have hM := meetM_fine hx hy h
  rw [meetA_t h]
  have h0 := (meetB_iff hx hy).1 h
  cases hyz : meetB y z with
  | false =>
    rw [Bool.false_and]
    have : ¬ meetB y z = true := by rw [hyz]; simp
    rw [meetB_iff hy hz] at this
    have g : ¬ meetB (meetM x y) z = true := by
      rw [meetB_iff hM hz]; simp only [meetM]; omega
    simpa using g
  | true =>
    have hN := meetM_fine hy hz hyz
    rw [Bool.true_and, meetA_t hyz, Bool.eq_iff_iff, meetB_iff hM hz, meetB_iff hx hN]
    rw [meetB_iff hy hz] at hyz
    rw [meetM_bot, meetM_right, meetM_bot, meetM_right]
    simp only [show (meetM x y).s = x.s from rfl, show (meetM x y).r = max x.r y.r from rfl, show (meetM x y).c = max x.c y.c from rfl, show (meetM y z).s = y.s from rfl, show (meetM y z).r = max y.r z.r from rfl, show (meetM y z).c = max y.c z.c from rfl,
      Int.max_lt, Int.lt_min] at h0 hyz ⊢
    clear hM hN hx hy hz h
    omega
theorem meetM_assoc (x y z : Ar) : meetM (meetM x y) z = meetM x (meetM y z) := by
  have m (a b c : Int) : max (max a b) c = max a (max b c) := Int.max_assoc a b c
  have n (a b c : Int) : min (min a b) c = min a (min b c) := Int.min_assoc a b c
  refine Ar.ext' rfl (m _ _ _) (m _ _ _) ?_ ?_
  · show min ((meetM x y).r + (meetM x y).h) _ - max (max x.r y.r) z.r = min _ ((meetM y z).r + (meetM y z).h) - max x.r (max y.r z.r)
    rw [meetM_bot, meetM_bot, m, n]
  · show min ((meetM x y).c + (meetM x y).w) _ - max (max x.c y.c) z.c = min _ ((meetM y z).c + (meetM y z).w) - max x.c (max y.c z.c)
    rw [meetM_right, meetM_right, m, n]
theorem meetA_three {x y z : Ar} (hx : x.fine) (hy : y.fine) (hz : z.fine) (h : meetB x y = true) (hyz : meetB y z = true) (h3 : meetB (meetA x y) z = true) : meetA (meetA x y) z = meetA x (meetA y z) := by
  have h4 : meetB x (meetA y z) = true := by
    have := meetB_three hx hy hz h; rw [h3, hyz, Bool.true_and] at this; exact this.symm
  rw [meetA_t h3, meetA_t h4, meetA_t h, meetA_t hyz]
  exact meetM_assoc x y z

theorem meetT_true (A B C X Y Z : Ar) (p0 p1 p2 q0 q1 q2 : Int) (hA : A.inB = true) (hB : B.inB = true) (hC : C.inB = true) (hp : (inI p0 && inI p1 && inI p2) = true) (hX : X.fine) (hY : Y.fine) (hZ : Z.fine) :
    (meetT A B C X Y Z p0 p1 p2 q0 q1 q2).run pure2 = some (.bool true, []) := by
  have iX := Ar.fine_in hX
  have iY := Ar.fine_in hY
  have iZ := Ar.fine_in hZ
  have iM := meetA_in hX hY
  have iN := meetA_in hY hZ
  unfold meetT
  simp only [Ans.run]
  rw [bcT hA, bcT hB, bcT hC, bcT hp]
  simp only [iX, iY, iZ, iM, iN, meetA_comm hX hY, meetB_comm hX hY, meetB_self hX, meetA_self hX, beq_self_eq_true, Bool.and_true, Bool.not_true, bcond]
  have hh := hasB_meet (s := q0) (r := q1) (c := q2) hX hY
  have tail : (match !meetB X Y with | true => pure2 (.bool ((meetA X Y).s == 0 && ((meetA X Y).r == 0 && ((meetA X Y).c == 0 && ((meetA X Y).h == 0 && (meetA X Y).w == 0))))) [] | false => (some (AV.bool true, []) : Option (AV × List PObj))) = some (.bool true, []) := by
    cases h : meetB X Y with
    | false => rw [meetA_f h]; rfl
    | true => rfl
  have rest : meetB X Y = true → hasB X (meetA X Y).s (meetA X Y).r (meetA X Y).c = true ∧ hasB Y (meetA X Y).s (meetA X Y).r (meetA X Y).c = true ∧ hasB X (meetA X Y).s (IntKind.i64.wrap (IntKind.i64.wrap ((meetA X Y).r + (meetA X Y).h) - 1)) (IntKind.i64.wrap (IntKind.i64.wrap ((meetA X Y).c + (meetA X Y).w) - 1)) = true ∧
      hasB Y (meetA X Y).s (IntKind.i64.wrap (IntKind.i64.wrap ((meetA X Y).r + (meetA X Y).h) - 1)) (IntKind.i64.wrap (IntKind.i64.wrap ((meetA X Y).c + (meetA X Y).w) - 1)) = true := by
    intro h
    have hM := meetM_fine hX hY h
    rw [meetA_t h]
    generalize hm : meetM X Y = M at hM
    have h' := (meetB_iff hX hY).1 h
    have e1 : M.s = X.s := by rw [← hm]; rfl
    have e2 : M.r = max X.r Y.r := by rw [← hm]; rfl
    have e3 : M.c = max X.c Y.c := by rw [← hm]; rfl
    have e4 : M.h = min (X.r + X.h) (Y.r + Y.h) - max X.r Y.r := by rw [← hm]; rfl
    have e5 : M.w = min (X.c + X.w) (Y.c + Y.w) - max X.c Y.c := by rw [← hm]; rfl
    unfold Ar.fine at hM
    rw [i64_in (n := M.r + M.h) (by omega) (by omega), i64_in (n := M.c + M.w) (by omega) (by omega), i64_in (n := M.r + M.h - 1) (by omega) (by omega), i64_in (n := M.c + M.w - 1) (by omega) (by omega)]
    rw [hasB_iff hX, hasB_iff hX, hasB_iff hY, hasB_iff hY]
    unfold Ar.fine at hX hY
    omega
  cases h : meetB X Y with
  | false =>
    rw [meetA_f h] at *
    cases h1 : hasB X q0 q1 q2 <;> cases h2 : hasB Y q0 q1 q2 <;> simp_all [pure2, hasB_zero]
  | true =>
    obtain ⟨r1, r2, r3, r4⟩ := rest h
    have h3 := meetB_three hX hY hZ h
    simp only [r1, r2, r3, r4, h, hh]
    cases hyz : meetB Y Z with
    | false =>
      rw [hyz, Bool.false_and] at h3
      cases h1 : hasB X q0 q1 q2 <;> cases h2 : hasB Y q0 q1 q2 <;> simp [h3, pure2]
    | true =>
      rw [hyz, Bool.true_and] at h3
      cases h4 : meetB (meetA X Y) Z with
      | false =>
        rw [h4] at h3
        cases h1 : hasB X q0 q1 q2 <;> cases h2 : hasB Y q0 q1 q2 <;> simp [← h3, pure2]
      | true =>
        have h5 := meetA_three hX hY hZ h hyz h4
        rw [h4] at h3
        cases h1 : hasB X q0 q1 q2 <;> cases h2 : hasB Y q0 q1 q2 <;> simp [← h3, h5, pure2]

/-- RefMeet: whatever it is called with, true. -/
theorem meet_law (a0 a1 a2 a3 a4 b0 b1 b2 b3 b4 c0 c1 c2 c3 c4 p0 p1 p2 : Int) (hA : Ar.inB ⟨a0, a1, a2, a3, a4⟩ = true) (hB : Ar.inB ⟨b0, b1, b2, b3, b4⟩ = true) (hC : Ar.inB ⟨c0, c1, c2, c3, c4⟩ = true) (hp : (inI p0 && inI p1 && inI p2) = true) :
    Meets Tryd.prog 7 [.agg [.int .i64 a0, .int .i64 a1, .int .i64 a2, .int .i64 a3, .int .i64 a4], .agg [.int .i64 b0, .int .i64 b1, .int .i64 b2, .int .i64 b3, .int .i64 b4], .agg [.int .i64 c0, .int .i64 c1, .int .i64 c2, .int .i64 c3, .int .i64 c4], .agg [.int .i64 p0, .int .i64 p1, .int .i64 p2]] [] (.bool true) [] := by
  have := ans_comes tab2_ok (meetT_comes a0 a1 a2 a3 a4 b0 b1 b2 b3 b4 c0 c1 c2 c3 c4 p0 p1 p2)
  obtain ⟨res, post, h1, h2⟩ := Ans.sound _ this (meetT_true _ _ _ _ _ _ p0 p1 p2 _ _ _ hA hB hC hp (areaS_bd _) (areaS_bd _) (areaS_bd _))
  cases h2; exact h1

end Go.Proofs.YtpdhfopfjoinnaaDoor
