/- Layer 2: areas. -/
import Derived.Test.YtanhlbdcjonaoaaDoorRbA
set_option linter.unusedVariables false
set_option linter.unusedSimpArgs false
namespace Go.Proofs.YtanhlbdcjonaoaaDoor
open Go Sx

/-- An area: its sheet, row, column, how many rows and columns. -/
structure Ar where
  s : Int
  r : Int
  c : Int
  h : Int
  w : Int
def Ar.v (x : Ar) : AV := .agg [.int .i64 x.s, .int .i64 x.r, .int .i64 x.c, .int .i64 x.h, .int .i64 x.w]
def Ar.inB (x : Ar) : Bool := inI x.s && inI x.r && inI x.c && inI x.h && inI x.w
def Ar.ok (x : Ar) : Bool := decide (0 ≤ x.s ∧ x.s < 8 ∧ 0 ≤ x.r ∧ 1 ≤ x.h ∧ x.h ≤ 200 - x.r ∧ 0 ≤ x.c ∧ 1 ≤ x.w ∧ x.w ≤ 52 - x.c)
theorem Ar.ok_iff {x : Ar} : x.ok = true ↔ 0 ≤ x.s ∧ x.s < 8 ∧ 0 ≤ x.r ∧ 1 ≤ x.h ∧ x.h ≤ 200 - x.r ∧ 0 ≤ x.c ∧ 1 ≤ x.w ∧ x.w ≤ 52 - x.c := by simp [Ar.ok]
theorem Ar.in_iff {x : Ar} : x.inB = true ↔ (-9223372036854775808 ≤ x.s ∧ x.s < 9223372036854775808) ∧ (-9223372036854775808 ≤ x.r ∧ x.r < 9223372036854775808) ∧ (-9223372036854775808 ≤ x.c ∧ x.c < 9223372036854775808) ∧ (-9223372036854775808 ≤ x.h ∧ x.h < 9223372036854775808) ∧ (-9223372036854775808 ≤ x.w ∧ x.w < 9223372036854775808) := by simp [Ar.inB, inI, and_assoc]

def eIsArea : Ent := fun args pre => match args, pre with
  | [.agg [.int .i64 s, .int .i64 r, .int .i64 c, .int .i64 h, .int .i64 w]], [] => .chk (Ar.inB ⟨s, r, c, h, w⟩) (.ret (.bool (Ar.ok ⟨s, r, c, h, w⟩)) [])
  | _, _ => .fail
theorem isArea_ok : EntOK Tryd.prog 42 eIsArea := fun args pre => by
  unfold eIsArea
  split
  · rename_i a0 a1 a2 a3 a4
    have e : Comes tab0 nolv 42 [.agg [.int .i64 a0, .int .i64 a1, .int .i64 a2, .int .i64 a3, .int .i64 a4]] [] (.br (decide (a0 < 0)) (.ret (.bool false) []) (.br (decide (a0 ≥ 8)) (.ret (.bool false) []) (.br (decide (a1 ≥ 0)) (.br (decide (a3 ≥ 1)) (.br (decide (a3 ≤ IntKind.i64.wrap (200 - a1))) (.br (decide (a2 ≥ 0)) (.br (decide (a4 ≥ 1)) (.ret (.bool (decide (a4 ≤ IntKind.i64.wrap (52 - a2)))) []) (.ret (.bool false) [])) (.ret (.bool false) [])) (.ret (.bool false) [])) (.ret (.bool false) [])) (.ret (.bool false) [])))) := by unfold Comes; kernel_rfl
    refine of_run (ans_comes tab0_ok e) fun r h => ?_
    obtain ⟨h1, h⟩ := chk_run h
    rw [Ar.in_iff] at h1
    simp only at h1
    rw [← h]
    simp only [Ans.run, Ar.ok]
    have key : ∀ b c : Bool, b = c → pure2 (.bool b) [] = pure2 (.bool c) [] := fun b c e => by rw [e]
    by_cases c1 : a0 < 0
    · rw [bcT (by simpa using c1)]; refine key _ _ (by simp; omega)
    rw [bcF (by simpa using c1)]
    by_cases c2 : a0 ≥ 8
    · rw [bcT (by simpa using c2)]; refine key _ _ (by simp; omega)
    rw [bcF (by simpa using c2)]
    by_cases c3 : a1 ≥ 0
    · rw [bcT (by simpa using c3)]
      by_cases c4 : a3 ≥ 1
      · rw [bcT (by simpa using c4), i64_in (by omega) (by omega)]
        by_cases c5 : a3 ≤ 200 - a1
        · rw [bcT (by simpa using c5)]
          by_cases c6 : a2 ≥ 0
          · rw [bcT (by simpa using c6)]
            by_cases c7 : a4 ≥ 1
            · rw [bcT (by simpa using c7), i64_in (by omega) (by omega)]
              refine key _ _ ?_
              rw [decide_eq_decide]; omega
            · rw [bcF (by simpa using c7)]; refine key _ _ (by simp; omega)
          · rw [bcF (by simpa using c6)]; refine key _ _ (by simp; omega)
        · rw [bcF (by simpa using c5)]; refine key _ _ (by simp; omega)
      · rw [bcF (by simpa using c4)]; refine key _ _ (by simp; omega)
    · rw [bcF (by simpa using c3)]; refine key _ _ (by simp; omega)
  · trivial

def eBetween : Ent := fun args pre => match args, pre with
  | [.agg [.int .i64 s, .int .i64 r, .int .i64 c], .int .i64 a, .int .i64 b], [] => .ret (.agg [.int .i64 s, .int .i64 r, .int .i64 c, .int .i64 (IntKind.i64.wrap (a - r)), .int .i64 (IntKind.i64.wrap (b - c))]) []
  | _, _ => .fail
theorem between_ok : EntOK Tryd.prog 43 eBetween := fun args pre => by
  unfold eBetween
  split
  · exact ans_comes (lv := nolv) tab0_ok (by unfold Comes; kernel_rfl)
  · trivial

def tab1 : Tab := (10, eTrue) :: (15, ePick) :: (42, eIsArea) :: (43, eBetween) :: tab0
theorem tab1_ok : TabOK Tryd.prog tab1 := .cons awake_ok (.cons pick_ok (.cons isArea_ok (.cons between_ok tab0_ok)))

/-- What two areas have in common. -/
def meetM (x y : Ar) : Ar := ⟨x.s, max x.r y.r, max x.c y.c, min (x.r + x.h) (y.r + y.h) - max x.r y.r, min (x.c + x.w) (y.c + y.w) - max x.c y.c⟩
def meetB (x y : Ar) : Bool := x.ok && y.ok && x.s == y.s && (meetM x y).ok
def meetA (x y : Ar) : Ar := if meetB x y = true then meetM x y else ⟨0, 0, 0, 0, 0⟩
def eMeet : Ent := fun args pre => match args, pre with
  | [.agg [.int .i64 a0, .int .i64 a1, .int .i64 a2, .int .i64 a3, .int .i64 a4], .agg [.int .i64 b0, .int .i64 b1, .int .i64 b2, .int .i64 b3, .int .i64 b4]], [] =>
    .chk (Ar.inB ⟨a0, a1, a2, a3, a4⟩ && Ar.inB ⟨b0, b1, b2, b3, b4⟩) (.ret (.tuple [(meetA ⟨a0, a1, a2, a3, a4⟩ ⟨b0, b1, b2, b3, b4⟩).v, .bool (meetB ⟨a0, a1, a2, a3, a4⟩ ⟨b0, b1, b2, b3, b4⟩)]) [])
  | _, _ => .fail
theorem maxI' {x y : Int} : (if y > x then y else x) = max x y := by omega
theorem minI' {x y : Int} : (if y < x then y else x) = min x y := by omega
def none5 : AV := .tuple [.agg [.int .i64 0, .int .i64 0, .int .i64 0, .int .i64 0, .int .i64 0], .bool false]
theorem meet_ok : EntOK Tryd.prog 22 eMeet := fun args pre => by
  unfold eMeet
  split
  · rename_i a0 a1 a2 a3 a4 b0 b1 b2 b3 b4
    have e : Comes tab1 nolv 22 [.agg [.int .i64 a0, .int .i64 a1, .int .i64 a2, .int .i64 a3, .int .i64 a4], .agg [.int .i64 b0, .int .i64 b1, .int .i64 b2, .int .i64 b3, .int .i64 b4]] []
      (.br (Ar.inB ⟨a0, a1, a2, a3, a4⟩) (.br (!Ar.ok ⟨a0, a1, a2, a3, a4⟩) (.ret none5 [])
        (.br (Ar.inB ⟨b0, b1, b2, b3, b4⟩) (.br (!Ar.ok ⟨b0, b1, b2, b3, b4⟩) (.ret none5 [])
          (.br (a0 != b0) (.ret none5 [])
            (.br (Ar.inB ⟨a0, if b1 > a1 then b1 else a1, if b2 > a2 then b2 else a2, IntKind.i64.wrap ((if IntKind.i64.wrap (b1 + b3) < IntKind.i64.wrap (a1 + a3) then IntKind.i64.wrap (b1 + b3) else IntKind.i64.wrap (a1 + a3)) - if b1 > a1 then b1 else a1), IntKind.i64.wrap ((if IntKind.i64.wrap (b2 + b4) < IntKind.i64.wrap (a2 + a4) then IntKind.i64.wrap (b2 + b4) else IntKind.i64.wrap (a2 + a4)) - if b2 > a2 then b2 else a2)⟩)
              (.br (!Ar.ok ⟨a0, if b1 > a1 then b1 else a1, if b2 > a2 then b2 else a2, IntKind.i64.wrap ((if IntKind.i64.wrap (b1 + b3) < IntKind.i64.wrap (a1 + a3) then IntKind.i64.wrap (b1 + b3) else IntKind.i64.wrap (a1 + a3)) - if b1 > a1 then b1 else a1), IntKind.i64.wrap ((if IntKind.i64.wrap (b2 + b4) < IntKind.i64.wrap (a2 + a4) then IntKind.i64.wrap (b2 + b4) else IntKind.i64.wrap (a2 + a4)) - if b2 > a2 then b2 else a2)⟩) (.ret none5 [])
                (.ret (.tuple [Ar.v ⟨a0, if b1 > a1 then b1 else a1, if b2 > a2 then b2 else a2, IntKind.i64.wrap ((if IntKind.i64.wrap (b1 + b3) < IntKind.i64.wrap (a1 + a3) then IntKind.i64.wrap (b1 + b3) else IntKind.i64.wrap (a1 + a3)) - if b1 > a1 then b1 else a1), IntKind.i64.wrap ((if IntKind.i64.wrap (b2 + b4) < IntKind.i64.wrap (a2 + a4) then IntKind.i64.wrap (b2 + b4) else IntKind.i64.wrap (a2 + a4)) - if b2 > a2 then b2 else a2)⟩, .bool true]) []))
              .fail)))
          .fail)) .fail) := by unfold Comes; kernel_rfl
    refine of_run (ans_comes tab1_ok e) fun r h => ?_
    obtain ⟨h1, h⟩ := chk_run h
    simp only [Bool.and_eq_true] at h1
    obtain ⟨hx, hy⟩ := h1
    rw [← h]
    simp only [Ans.run, hx, hy]
    rw [Ar.in_iff] at hx hy
    simp only at hx hy
    have no : meetB ⟨a0, a1, a2, a3, a4⟩ ⟨b0, b1, b2, b3, b4⟩ = false → pure2 none5 [] = pure2 (.tuple [(meetA ⟨a0, a1, a2, a3, a4⟩ ⟨b0, b1, b2, b3, b4⟩).v, .bool (meetB ⟨a0, a1, a2, a3, a4⟩ ⟨b0, b1, b2, b3, b4⟩)]) [] := fun e => by
      unfold meetA; rw [e]; rfl
    rw [bcT rfl]
    cases c1 : Ar.ok ⟨a0, a1, a2, a3, a4⟩ with
    | false => rw [bcT (by rfl)]; exact no (by simp [meetB, c1])
    | true =>
      rw [bcF (by rfl), bcT rfl]
      cases c2 : Ar.ok ⟨b0, b1, b2, b3, b4⟩ with
      | false => rw [bcT (by rfl)]; exact no (by simp [meetB, c2])
      | true =>
        rw [bcF (by rfl)]
        have d1 := Ar.ok_iff.1 c1
        have d2 := Ar.ok_iff.1 c2
        simp only at d1 d2
        by_cases c3 : a0 = b0
        · rw [bcF (by simpa using c3)]
          simp only [maxI', minI', i64_in (n := b1 + b3) (by omega) (by omega), i64_in (n := a1 + a3) (by omega) (by omega), i64_in (n := b2 + b4) (by omega) (by omega), i64_in (n := a2 + a4) (by omega) (by omega), i64_in (n := min (a1 + a3) (b1 + b3) - max a1 b1) (by omega) (by omega), i64_in (n := min (a2 + a4) (b2 + b4) - max a2 b2) (by omega) (by omega)]
          have em : (⟨a0, max a1 b1, max a2 b2, min (a1 + a3) (b1 + b3) - max a1 b1, min (a2 + a4) (b2 + b4) - max a2 b2⟩ : Ar) = meetM ⟨a0, a1, a2, a3, a4⟩ ⟨b0, b1, b2, b3, b4⟩ := rfl
          rw [em, bcT (by rw [Ar.in_iff]; simp only [meetM]; omega)]
          cases c4 : (meetM ⟨a0, a1, a2, a3, a4⟩ ⟨b0, b1, b2, b3, b4⟩).ok with
          | false => rw [bcT (by rfl)]; exact no (by simp [meetB, c4])
          | true =>
            have hb : meetB ⟨a0, a1, a2, a3, a4⟩ ⟨b0, b1, b2, b3, b4⟩ = true := by unfold meetB; rw [c1, c2, c4]; simpa using c3
            rw [bcF (by rfl), hb]
            simp only [meetA, hb, if_true]
        · rw [bcT (by simpa using c3)]; exact no (by simp [meetB, c3])
  · trivial

/-- Has an area a place? -/
def hasB (x : Ar) (s r c : Int) : Bool := x.ok && x.s == s && decide (x.r ≤ r ∧ r < x.r + x.h ∧ x.c ≤ c ∧ c < x.c + x.w)
def eHas : Ent := fun args pre => match args, pre with
  | [.agg [.int .i64 a0, .int .i64 a1, .int .i64 a2, .int .i64 a3, .int .i64 a4], .agg [.int .i64 b0, .int .i64 b1, .int .i64 b2]], [] =>
    .chk (Ar.inB ⟨a0, a1, a2, a3, a4⟩) (.ret (.bool (hasB ⟨a0, a1, a2, a3, a4⟩ b0 b1 b2)) [])
  | _, _ => .fail
theorem has_ok : EntOK Tryd.prog 23 eHas := fun args pre => by
  unfold eHas
  split
  · rename_i a0 a1 a2 a3 a4 b0 b1 b2
    have e : Comes tab1 nolv 23 [.agg [.int .i64 a0, .int .i64 a1, .int .i64 a2, .int .i64 a3, .int .i64 a4], .agg [.int .i64 b0, .int .i64 b1, .int .i64 b2]] []
      (.br (Ar.inB ⟨a0, a1, a2, a3, a4⟩) (.br (!Ar.ok ⟨a0, a1, a2, a3, a4⟩) (.ret (.bool false) [])
        (.br (a0 != b0) (.ret (.bool false) []) (.br (decide (b1 ≥ a1)) (.br (decide (b1 < IntKind.i64.wrap (a1 + a3))) (.br (decide (b2 ≥ a2)) (.ret (.bool (decide (b2 < IntKind.i64.wrap (a2 + a4)))) []) (.ret (.bool false) [])) (.ret (.bool false) [])) (.ret (.bool false) [])))) .fail) := by unfold Comes; kernel_rfl
    refine of_run (ans_comes tab1_ok e) fun r h => ?_
    obtain ⟨h1, h⟩ := chk_run h
    rw [← h]
    simp only [Ans.run, h1]
    rw [bcT rfl]
    have key : ∀ b c : Bool, b = c → pure2 (.bool b) [] = pure2 (.bool c) [] := fun b c e => by rw [e]
    cases c1 : Ar.ok ⟨a0, a1, a2, a3, a4⟩ with
    | false => rw [bcT (by rfl)]; exact key _ _ (by simp [hasB, c1])
    | true =>
      have d1 := Ar.ok_iff.1 c1
      simp only at d1
      rw [bcF (by rfl)]
      by_cases c2 : a0 = b0
      · rw [bcF (by simpa using c2), i64_in (n := a1 + a3) (by omega) (by omega), i64_in (n := a2 + a4) (by omega) (by omega)]
        by_cases c3 : b1 ≥ a1
        · rw [bcT (by simpa using c3)]
          by_cases c4 : b1 < a1 + a3
          · rw [bcT (by simpa using c4)]
            by_cases c5 : b2 ≥ a2
            · rw [bcT (by simpa using c5)]
              refine key _ _ ?_
              unfold hasB
              rw [c1]
              simp only [Bool.true_and]
              have h5 : (a0 == b0) = true := by simpa using c2
              rw [h5, Bool.true_and, decide_eq_decide]; omega
            · rw [bcF (by simpa using c5)]; refine key _ _ (by simp [hasB]; omega)
          · rw [bcF (by simpa using c4)]; refine key _ _ (by simp [hasB]; omega)
        · rw [bcF (by simpa using c3)]; refine key _ _ (by simp [hasB]; omega)
      · rw [bcT (by simpa using c2)]; exact key _ _ (by simp [hasB, c2])
  · trivial

/-- RefArea: a right area out of whole numbers. -/
def areaS (x : Ar) : Ar := ⟨pickS x.s 2, pickS x.r 200, pickS x.c 52, 1 + pickS x.h (200 - pickS x.r 200), 1 + pickS x.w (52 - pickS x.c 52)⟩
theorem areaS_bd (x : Ar) : 0 ≤ (areaS x).s ∧ (areaS x).s < 2 ∧ 0 ≤ (areaS x).r ∧ 1 ≤ (areaS x).h ∧ (areaS x).h ≤ 200 - (areaS x).r ∧ 0 ≤ (areaS x).c ∧ 1 ≤ (areaS x).w ∧ (areaS x).w ≤ 52 - (areaS x).c := by
  have h1 := pickS_bd (a := x.s) (n := 2) (by omega)
  have h2 := pickS_bd (a := x.r) (n := 200) (by omega)
  have h3 := pickS_bd (a := x.c) (n := 52) (by omega)
  have h4 := pickS_bd (a := x.h) (n := 200 - pickS x.r 200) (by omega)
  have h5 := pickS_bd (a := x.w) (n := 52 - pickS x.c 52) (by omega)
  simp only [areaS]; omega
def eRefArea : Ent := fun args pre => match args, pre with
  | [.agg [.int .i64 a0, .int .i64 a1, .int .i64 a2, .int .i64 a3, .int .i64 a4]], [] => .chk (Ar.inB ⟨a0, a1, a2, a3, a4⟩) (.ret (areaS ⟨a0, a1, a2, a3, a4⟩).v [])
  | _, _ => .fail
theorem refArea_ok : EntOK Tryd.prog 20 eRefArea := fun args pre => by
  unfold eRefArea
  split
  · rename_i a0 a1 a2 a3 a4
    have e : Comes tab1 nolv 20 [.agg [.int .i64 a0, .int .i64 a1, .int .i64 a2, .int .i64 a3, .int .i64 a4]] []
      (.br (inI a0 && decide ((0 : Int) < 2)) (.br (inI a1 && decide ((0 : Int) < 200)) (.br (inI a2 && decide ((0 : Int) < 52)) (.br (inI a3 && decide (0 < IntKind.i64.wrap (200 - pickS a1 200))) (.br (inI a4 && decide (0 < IntKind.i64.wrap (52 - pickS a2 52)))
        (.ret (.agg [.int .i64 (pickS a0 2), .int .i64 (pickS a1 200), .int .i64 (pickS a2 52), .int .i64 (IntKind.i64.wrap (1 + pickS a3 (IntKind.i64.wrap (200 - pickS a1 200)))), .int .i64 (IntKind.i64.wrap (1 + pickS a4 (IntKind.i64.wrap (52 - pickS a2 52))))]) [])
        .fail) .fail) .fail) .fail) .fail) := by unfold Comes; kernel_rfl
    refine of_run (ans_comes tab1_ok e) fun r h => ?_
    obtain ⟨h1, h⟩ := chk_run h
    rw [← h]
    simp only [Ar.inB, Bool.and_eq_true] at h1
    obtain ⟨⟨⟨⟨k0, k1⟩, k2⟩, k3⟩, k4⟩ := h1
    have h2 := pickS_bd (a := a1) (n := 200) (by omega)
    have h3 := pickS_bd (a := a2) (n := 52) (by omega)
    have h4 := pickS_bd (a := a3) (n := 200 - pickS a1 200) (by omega)
    have h5 := pickS_bd (a := a4) (n := 52 - pickS a2 52) (by omega)
    simp only [Ans.run, k0, k1, k2, k3, k4, i64_in (n := 200 - pickS a1 200) (by omega) (by omega), i64_in (n := 52 - pickS a2 52) (by omega) (by omega), i64_in (n := 1 + pickS a3 (200 - pickS a1 200)) (by omega) (by omega), i64_in (n := 1 + pickS a4 (52 - pickS a2 52)) (by omega) (by omega)]
    rw [bcT (by rfl), bcT (by rfl), bcT (by rfl), bcT (by simp; omega), bcT (by simp; omega)]
    rfl
  · trivial

def eRefAt : Ent := fun args pre => match args, pre with
  | [.agg [.int .i64 a0, .int .i64 a1, .int .i64 a2]], [] => .chk (inI a0 && inI a1 && inI a2) (.ret (.agg [.int .i64 (pickS a0 2), .int .i64 (pickS a1 200), .int .i64 (pickS a2 52)]) [])
  | _, _ => .fail
theorem refAt_ok : EntOK Tryd.prog 21 eRefAt := fun args pre => by
  unfold eRefAt
  split
  · rename_i a0 a1 a2
    have e : Comes tab1 nolv 21 [.agg [.int .i64 a0, .int .i64 a1, .int .i64 a2]] []
      (.br (inI a0 && decide ((0 : Int) < 2)) (.br (inI a1 && decide ((0 : Int) < 200)) (.br (inI a2 && decide ((0 : Int) < 52))
        (.ret (.agg [.int .i64 (pickS a0 2), .int .i64 (pickS a1 200), .int .i64 (pickS a2 52)]) []) .fail) .fail) .fail) := by unfold Comes; kernel_rfl
    refine of_run (ans_comes tab1_ok e) fun r h => ?_
    obtain ⟨h1, h⟩ := chk_run h
    rw [← h]
    simp only [Bool.and_eq_true] at h1
    obtain ⟨⟨k0, k1⟩, k2⟩ := h1
    simp only [Ans.run, k0, k1, k2]
    rfl
  · trivial

def tab2 : Tab := (20, eRefArea) :: (21, eRefAt) :: (22, eMeet) :: (23, eHas) :: tab1
theorem tab2_ok : TabOK Tryd.prog tab2 := .cons refArea_ok (.cons refAt_ok (.cons meet_ok (.cons has_ok tab1_ok)))

end Go.Proofs.YtanhlbdcjonaoaaDoor
