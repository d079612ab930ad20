import Derived.Test.YtabgphldbgdbpaaDecT
set_option linter.unusedVariables false
set_option linter.unusedSimpArgs false
set_option maxRecDepth 20000
namespace Go.Proofs.Ytabgphldbgdbpaa
open Go Sx Dc

/-- 1 multiplied by a decimal so often. -/
def powL (am ae : Int) : Nat → Int × Int × Int
  | 0 => (1, 0, 0)
  | k + 1 => if (powL am ae k).2.2 = 0 then (if (mulR (powL am ae k).1 (powL am ae k).2.1 am ae).2.2 = 0 then mulR (powL am ae k).1 (powL am ae k).2.1 am ae else (0, 0, (mulR (powL am ae k).1 (powL am ae k).2.1 am ae).2.2)) else powL am ae k
def powR (am ae n : Int) : Int × Int × Int :=
  if rightB am ae = true then
    (if n < -100 ∨ n > 100 then (0, 0, 2) else
      (if (powL am ae n.natAbs).2.2 = 0 then (if n < 0 then divR 1 0 (powL am ae n.natAbs).1 (powL am ae n.natAbs).2.1 else ((powL am ae n.natAbs).1, (powL am ae n.natAbs).2.1, 0)) else (0, 0, (powL am ae n.natAbs).2.2)))
  else bad3
theorem powL_bad {am ae : Int} {k : Nat} (h : (powL am ae k).2.2 ≠ 0) : (powL am ae k).1 = 0 ∧ (powL am ae k).2.1 = 0 := by
  induction k with
  | zero => simp [powL] at h
  | succ k ih =>
    rw [powL] at h ⊢
    split
    · rename_i h0
      rw [if_pos h0] at h
      split
      · rename_i h1; rw [if_pos h1] at h; exact absurd h1 h
      · exact ⟨rfl, rfl⟩
    · rename_i h0; exact ih h0
theorem powL_stays {am ae : Int} {k : Nat} (h : (powL am ae k).2.2 ≠ 0) : ∀ n, k ≤ n → powL am ae n = powL am ae k
  | 0, hn => by rw [show k = 0 by omega]
  | n + 1, hn => by
    by_cases e : k = n + 1
    · rw [e]
    · have ih := powL_stays h n (by omega)
      rw [powL, ih, if_neg h]
attribute [irreducible] powL
attribute [local irreducible] mulR divR

def pow_inv (am ae n : Int) (N : Nat) (xm xe : Int) (k : Nat) : AState :=
  ⟨[none, some (AV.int .i64 n), some (AV.ptr 0 0), none, some (AV.ptr 1 0), some (AV.int .i64 0), some (AV.ptr 2 0), some (AV.ptr 3 0), none, none, none, none, none, none, none, none, none, none, none, none, none, none, none, none, some (AV.int .i64 ((N : Nat) : Int)), some (AV.int .i64 ((k : Nat) : Int)), none, none, none, none, none, none, none, none, none, none, none, none, none, none, none, none, none, none, none, none, none], [some (AObj.cells [AV.int .i64 am, AV.int .i64 ae] 23), some (AObj.cells [AV.int .i64 0, AV.int .i64 0] 23), some (AObj.cells [AV.int .i64 1, AV.int .i64 0] 23), some (AObj.cells [AV.int .i64 xm, AV.int .i64 xe] 23), none]⟩

theorem pow_round (am ae n : Int) (N : Nat) (xm xe : Int) (k : Nat) (hN : N ≤ 100) (h1 : k < N) (h : (mulR xm xe am ae).2.2 = 0) : Tri Try.prog (loopN (bodyOf Try.f20) 0) (pow_inv am ae n N xm xe k) .normal (pow_inv am ae n N (mulR xm xe am ae).1 (mulR xm xe am ae).2.1 (k + 1)) := by
  exact Tri.next (D := (fun n => [4].contains n)) (ob := [AV.int .i64 n = AV.int .i64 n,
        AV.ptr 0 0 = AV.ptr 0 0,
        AV.ptr 1 0 = AV.ptr 1 0,
        AV.int .i64 0 = AV.int .i64 0,
        AV.ptr 2 0 = AV.ptr 2 0,
        AV.ptr 3 0 = AV.ptr 3 0,
        AV.int .i64 ((N : Nat) : Int) = AV.int .i64 ((N : Nat) : Int),
        AV.int .i64 ((k + 1 : Nat) : Int) = AV.int .i64 ((k + 1 : Nat) : Int),
        AObj.cells [AV.int .i64 am, AV.int .i64 ae] 23 = AObj.cells [AV.int .i64 am, AV.int .i64 ae] 23,
        AvoidO (fun n => [4].contains n) (AObj.cells [AV.int .i64 am, AV.int .i64 ae] 23),
        AObj.cells [AV.int .i64 0, AV.int .i64 0] 23 = AObj.cells [AV.int .i64 0, AV.int .i64 0] 23,
        AvoidO (fun n => [4].contains n) (AObj.cells [AV.int .i64 0, AV.int .i64 0] 23),
        AObj.cells [AV.int .i64 1, AV.int .i64 0] 23 = AObj.cells [AV.int .i64 1, AV.int .i64 0] 23,
        AvoidO (fun n => [4].contains n) (AObj.cells [AV.int .i64 1, AV.int .i64 0] 23),
        AObj.cells [AV.int .i64 ((mulR xm xe am ae).1), AV.int .i64 ((mulR xm xe am ae).2.1)] 23 = AObj.cells [AV.int .i64 ((mulR xm xe am ae).1), AV.int .i64 ((mulR xm xe am ae).2.1)] 23,
        AvoidO (fun n => [4].contains n) (AObj.cells [AV.int .i64 ((mulR xm xe am ae).1), AV.int .i64 ((mulR xm xe am ae).2.1)] 23)]) (exec_sound _ [.reg [(0, {val := some (AV.bool true)})], .reg [(0, {val := some (AV.agg [AV.int .i64 xm, AV.int .i64 xe])}), (1, {val := some (AV.agg [AV.int .i64 am, AV.int .i64 ae])}), (2, {call := some ⟨[], [AV.agg [AV.int .i64 xm, AV.int .i64 xe], AV.agg [AV.int .i64 am, AV.int .i64 ae]], [], AV.tuple [AV.agg [AV.int .i64 ((mulR xm xe am ae).1), AV.int .i64 ((mulR xm xe am ae).2.1)], AV.int .i64 ((mulR xm xe am ae).2.2)], []⟩}), (6, {nm := [4]}), (7, {obj := some [AObj.cells [AV.int .i64 ((mulR xm xe am ae).1), AV.int .i64 ((mulR xm xe am ae).2.1)] 23]})], .reg [(1, {val := some (AV.bool false)})], .reg [(0, {val := some (AV.agg [AV.int .i64 ((mulR xm xe am ae).1), AV.int .i64 ((mulR xm xe am ae).2.1)])}), (1, {obj := some [AObj.cells [AV.int .i64 ((mulR xm xe am ae).1), AV.int .i64 ((mulR xm xe am ae).2.1)] 23]})], .reg [(0, {val := some (AV.int .i64 ((k + 1 : Nat) : Int))})]] _
    ⟨[AV.bool (decide (((k : Nat) : Int) < ((N : Nat) : Int))) = AV.bool true,
        0 ≤ 0,
        0 - 0 + 2 ≤ List.length [AV.int .i64 xm, AV.int .i64 xe],
        List.take 2 (List.drop (0 - 0) [AV.int .i64 xm, AV.int .i64 xe]) = [AV.int .i64 xm, AV.int .i64 xe],
        0 ≤ 0,
        0 - 0 + 2 ≤ List.length [AV.int .i64 am, AV.int .i64 ae],
        List.take 2 (List.drop (0 - 0) [AV.int .i64 am, AV.int .i64 ae]) = [AV.int .i64 am, AV.int .i64 ae],
        [AV.agg [AV.int .i64 xm, AV.int .i64 xe], AV.agg [AV.int .i64 am, AV.int .i64 ae]] = renL [] [AV.agg [AV.int .i64 xm, AV.int .i64 xe], AV.agg [AV.int .i64 am, AV.int .i64 ae]],
        Meets Try.prog 23 [AV.agg [AV.int .i64 xm, AV.int .i64 xe], AV.agg [AV.int .i64 am, AV.int .i64 ae]] [] (AV.tuple [AV.agg [AV.int .i64 ((mulR xm xe am ae).1), AV.int .i64 ((mulR xm xe am ae).2.1)], AV.int .i64 ((mulR xm xe am ae).2.2)]) [],
        ([AV.int .i64 ((mulR xm xe am ae).1), AV.int .i64 ((mulR xm xe am ae).2.1)] : List AV).length = 2,
        0 + 2 ≤ List.length [AV.int .i64 0, AV.int .i64 0],
        AObj.cells (List.take 0 [AV.int .i64 0, AV.int .i64 0] ++ [AV.int .i64 ((mulR xm xe am ae).1), AV.int .i64 ((mulR xm xe am ae).2.1)] ++ List.drop (0 + 2) [AV.int .i64 0, AV.int .i64 0]) 23 = AObj.cells [AV.int .i64 ((mulR xm xe am ae).1), AV.int .i64 ((mulR xm xe am ae).2.1)] 23,
        AV.bool (((mulR xm xe am ae).2.2) != 0) = AV.bool false,
        0 ≤ 0,
        0 - 0 + 2 ≤ List.length [AV.int .i64 ((mulR xm xe am ae).1), AV.int .i64 ((mulR xm xe am ae).2.1)],
        List.take 2 (List.drop (0 - 0) [AV.int .i64 ((mulR xm xe am ae).1), AV.int .i64 ((mulR xm xe am ae).2.1)]) = [AV.int .i64 ((mulR xm xe am ae).1), AV.int .i64 ((mulR xm xe am ae).2.1)],
        ([AV.int .i64 ((mulR xm xe am ae).1), AV.int .i64 ((mulR xm xe am ae).2.1)] : List AV).length = 2,
        0 + 2 ≤ List.length [AV.int .i64 xm, AV.int .i64 xe],
        AObj.cells (List.take 0 [AV.int .i64 xm, AV.int .i64 xe] ++ [AV.int .i64 ((mulR xm xe am ae).1), AV.int .i64 ((mulR xm xe am ae).2.1)] ++ List.drop (0 + 2) [AV.int .i64 xm, AV.int .i64 xe]) 23 = AObj.cells [AV.int .i64 ((mulR xm xe am ae).1), AV.int .i64 ((mulR xm xe am ae).2.1)] 23,
        AV.int .i64 (IntKind.i64.wrap (((k : Nat) : Int) + 1)) = AV.int .i64 ((k + 1 : Nat) : Int)],
      .normal, ⟨[none, some (AV.int .i64 n), some (AV.ptr 0 0), none, some (AV.ptr 1 0), some (AV.int .i64 0), some (AV.ptr 2 0), some (AV.ptr 3 0), some (AV.ptr 4 0), some (AV.int .i64 ((mulR xm xe am ae).2.2)), none, none, none, none, none, none, none, none, none, none, none, none, none, none, some (AV.int .i64 ((N : Nat) : Int)), some (AV.int .i64 ((k + 1 : Nat) : Int)), some (AV.bool true), some (AV.tuple [AV.agg [AV.int .i64 ((mulR xm xe am ae).1), AV.int .i64 ((mulR xm xe am ae).2.1)], AV.int .i64 ((mulR xm xe am ae).2.2)]), some (AV.agg [AV.int .i64 xm, AV.int .i64 xe]), some (AV.agg [AV.int .i64 am, AV.int .i64 ae]), some (AV.tuple [AV.agg [AV.int .i64 ((mulR xm xe am ae).1), AV.int .i64 ((mulR xm xe am ae).2.1)], AV.int .i64 ((mulR xm xe am ae).2.2)]), some (AV.agg [AV.int .i64 ((mulR xm xe am ae).1), AV.int .i64 ((mulR xm xe am ae).2.1)]), some (AV.int .i64 ((mulR xm xe am ae).2.2)), some (AV.int .i64 ((mulR xm xe am ae).2.2)), some (AV.bool false), none, none, some (AV.agg [AV.int .i64 ((mulR xm xe am ae).1), AV.int .i64 ((mulR xm xe am ae).2.1)]), some (AV.int .i64 ((k + 1 : Nat) : Int)), none, none, none, none, none, none, none, none], [some (AObj.cells [AV.int .i64 am, AV.int .i64 ae] 23), some (AObj.cells [AV.int .i64 0, AV.int .i64 0] 23), some (AObj.cells [AV.int .i64 1, AV.int .i64 0] 23), some (AObj.cells [AV.int .i64 ((mulR xm xe am ae).1), AV.int .i64 ((mulR xm xe am ae).2.1)] 23), some (AObj.cells [AV.int .i64 ((mulR xm xe am ae).1), AV.int .i64 ((mulR xm xe am ae).2.1)] 23)]⟩, []⟩ (by kernel_rfl)
    ⟨bT (by omega), Nat.zero_le _, Nat.le_of_ble_eq_true rfl, rfl, Nat.zero_le _, Nat.le_of_ble_eq_true rfl, rfl, rfl, mul_meets _ _ _ _, rfl, Nat.le_of_ble_eq_true rfl, rfl, neF h, Nat.zero_le _, Nat.le_of_ble_eq_true rfl, rfl, rfl, Nat.le_of_ble_eq_true rfl, rfl, wI (by omega), trivial⟩) (by kernel_rfl)
    ⟨rfl, rfl, rfl, rfl, rfl, rfl, rfl, rfl, rfl, AvoidO.cells (AvoidL.cons (Avoid.int _ _ _) (AvoidL.cons (Avoid.int _ _ _) (AvoidL.nil _))), rfl, AvoidO.cells (AvoidL.cons (Avoid.int _ _ _) (AvoidL.cons (Avoid.int _ _ _) (AvoidL.nil _))), rfl, AvoidO.cells (AvoidL.cons (Avoid.int _ _ _) (AvoidL.cons (Avoid.int _ _ _) (AvoidL.nil _))), rfl, AvoidO.cells (AvoidL.cons (Avoid.int _ _ _) (AvoidL.cons (Avoid.int _ _ _) (AvoidL.nil _))), trivial⟩ (dropOK _ rfl)

def pow_ret (e : Int) : AState :=
  ⟨[none, none, none, none, some (AV.ptr 1 0), some (AV.int .i64 e), none, none, none, none, none, none, none, none, none, none, none, none, none, none, none, none, none, none, none, none, none, none, none, none, none, none, none, none, none, none, none, none, none, none, none, none, none, none, none, none, none], [some (AObj.dead), some (AObj.cells [AV.int .i64 0, AV.int .i64 0] 23), some (AObj.dead), some (AObj.dead), none]⟩

theorem pow_err (am ae n : Int) (N : Nat) (xm xe : Int) (k : Nat) (hN : N ≤ 100) (h1 : k < N) (h : ¬ (mulR xm xe am ae).2.2 = 0) : Tri Try.prog (loopN (bodyOf Try.f20) 0) (pow_inv am ae n N xm xe k) .ret (pow_ret (mulR xm xe am ae).2.2) := by
  exact Tri.next (D := (fun n => [4].contains n)) (ob := [AV.ptr 1 0 = AV.ptr 1 0,
        AV.int .i64 ((mulR xm xe am ae).2.2) = AV.int .i64 ((mulR xm xe am ae).2.2),
        AObj.cells [AV.int .i64 0, AV.int .i64 0] 23 = AObj.cells [AV.int .i64 0, AV.int .i64 0] 23,
        AvoidO (fun n => [4].contains n) (AObj.cells [AV.int .i64 0, AV.int .i64 0] 23)]) (exec_sound _ [.reg [(0, {val := some (AV.bool true)})], .reg [(0, {val := some (AV.agg [AV.int .i64 xm, AV.int .i64 xe])}), (1, {val := some (AV.agg [AV.int .i64 am, AV.int .i64 ae])}), (2, {call := some ⟨[], [AV.agg [AV.int .i64 xm, AV.int .i64 xe], AV.agg [AV.int .i64 am, AV.int .i64 ae]], [], AV.tuple [AV.agg [AV.int .i64 ((mulR xm xe am ae).1), AV.int .i64 ((mulR xm xe am ae).2.1)], AV.int .i64 ((mulR xm xe am ae).2.2)], []⟩}), (6, {nm := [4]}), (7, {obj := some [AObj.cells [AV.int .i64 ((mulR xm xe am ae).1), AV.int .i64 ((mulR xm xe am ae).2.1)] 23]})], .reg [(1, {val := some (AV.bool true)})], .reg [(2, {obj := some [AObj.cells [AV.int .i64 0, AV.int .i64 0] 23]})]] _
    ⟨[AV.bool (decide (((k : Nat) : Int) < ((N : Nat) : Int))) = AV.bool true,
        0 ≤ 0,
        0 - 0 + 2 ≤ List.length [AV.int .i64 xm, AV.int .i64 xe],
        List.take 2 (List.drop (0 - 0) [AV.int .i64 xm, AV.int .i64 xe]) = [AV.int .i64 xm, AV.int .i64 xe],
        0 ≤ 0,
        0 - 0 + 2 ≤ List.length [AV.int .i64 am, AV.int .i64 ae],
        List.take 2 (List.drop (0 - 0) [AV.int .i64 am, AV.int .i64 ae]) = [AV.int .i64 am, AV.int .i64 ae],
        [AV.agg [AV.int .i64 xm, AV.int .i64 xe], AV.agg [AV.int .i64 am, AV.int .i64 ae]] = renL [] [AV.agg [AV.int .i64 xm, AV.int .i64 xe], AV.agg [AV.int .i64 am, AV.int .i64 ae]],
        Meets Try.prog 23 [AV.agg [AV.int .i64 xm, AV.int .i64 xe], AV.agg [AV.int .i64 am, AV.int .i64 ae]] [] (AV.tuple [AV.agg [AV.int .i64 ((mulR xm xe am ae).1), AV.int .i64 ((mulR xm xe am ae).2.1)], AV.int .i64 ((mulR xm xe am ae).2.2)]) [],
        ([AV.int .i64 ((mulR xm xe am ae).1), AV.int .i64 ((mulR xm xe am ae).2.1)] : List AV).length = 2,
        0 + 2 ≤ List.length [AV.int .i64 0, AV.int .i64 0],
        AObj.cells (List.take 0 [AV.int .i64 0, AV.int .i64 0] ++ [AV.int .i64 ((mulR xm xe am ae).1), AV.int .i64 ((mulR xm xe am ae).2.1)] ++ List.drop (0 + 2) [AV.int .i64 0, AV.int .i64 0]) 23 = AObj.cells [AV.int .i64 ((mulR xm xe am ae).1), AV.int .i64 ((mulR xm xe am ae).2.1)] 23,
        AV.bool (((mulR xm xe am ae).2.2) != 0) = AV.bool true,
        ([AV.int .i64 0, AV.int .i64 0] : List AV).length = 2,
        0 + 2 ≤ List.length [AV.int .i64 0, AV.int .i64 0],
        AObj.cells (List.take 0 [AV.int .i64 0, AV.int .i64 0] ++ [AV.int .i64 0, AV.int .i64 0] ++ List.drop (0 + 2) [AV.int .i64 0, AV.int .i64 0]) 23 = AObj.cells [AV.int .i64 0, AV.int .i64 0] 23],
      .ret, ⟨[none, some (AV.int .i64 n), some (AV.ptr 0 0), none, some (AV.ptr 1 0), some (AV.int .i64 ((mulR xm xe am ae).2.2)), some (AV.ptr 2 0), some (AV.ptr 3 0), some (AV.ptr 4 0), some (AV.int .i64 ((mulR xm xe am ae).2.2)), none, none, none, none, none, none, none, none, none, none, none, none, none, none, some (AV.int .i64 ((N : Nat) : Int)), some (AV.int .i64 ((k : Nat) : Int)), some (AV.bool true), some (AV.tuple [AV.agg [AV.int .i64 ((mulR xm xe am ae).1), AV.int .i64 ((mulR xm xe am ae).2.1)], AV.int .i64 ((mulR xm xe am ae).2.2)]), some (AV.agg [AV.int .i64 xm, AV.int .i64 xe]), some (AV.agg [AV.int .i64 am, AV.int .i64 ae]), some (AV.tuple [AV.agg [AV.int .i64 ((mulR xm xe am ae).1), AV.int .i64 ((mulR xm xe am ae).2.1)], AV.int .i64 ((mulR xm xe am ae).2.2)]), some (AV.agg [AV.int .i64 ((mulR xm xe am ae).1), AV.int .i64 ((mulR xm xe am ae).2.1)]), some (AV.int .i64 ((mulR xm xe am ae).2.2)), some (AV.int .i64 ((mulR xm xe am ae).2.2)), some (AV.bool true), some (AV.agg [AV.int .i64 0, AV.int .i64 0]), some (AV.int .i64 ((mulR xm xe am ae).2.2)), none, none, none, none, none, none, none, none, none, none], [some (AObj.cells [AV.int .i64 am, AV.int .i64 ae] 23), some (AObj.cells [AV.int .i64 0, AV.int .i64 0] 23), some (AObj.cells [AV.int .i64 1, AV.int .i64 0] 23), some (AObj.cells [AV.int .i64 xm, AV.int .i64 xe] 23), some (AObj.cells [AV.int .i64 ((mulR xm xe am ae).1), AV.int .i64 ((mulR xm xe am ae).2.1)] 23)]⟩, []⟩ (by kernel_rfl)
    ⟨bT (by omega), Nat.zero_le _, Nat.le_of_ble_eq_true rfl, rfl, Nat.zero_le _, Nat.le_of_ble_eq_true rfl, rfl, rfl, mul_meets _ _ _ _, rfl, Nat.le_of_ble_eq_true rfl, rfl, neT h, rfl, Nat.le_of_ble_eq_true rfl, rfl, trivial⟩) (by kernel_rfl)
    ⟨rfl, rfl, rfl, AvoidO.cells (AvoidL.cons (Avoid.int _ _ _) (AvoidL.cons (Avoid.int _ _ _) (AvoidL.nil _))), trivial⟩ (dropOK _ rfl)

def pow_out (am ae n xm xe : Int) : AState :=
  ⟨[none, some (AV.int .i64 n), none, none, some (AV.ptr 1 0), some (AV.int .i64 0), some (AV.ptr 2 0), some (AV.ptr 3 0), none, none, none, none, none, none, none, none, none, none, none, none, none, none, none, none, none, none, none, none, none, none, none, none, none, none, none, none, none, none, none, none, none, none, none, none, none, none, none], [some (AObj.cells [AV.int .i64 am, AV.int .i64 ae] 23), some (AObj.cells [AV.int .i64 0, AV.int .i64 0] 23), some (AObj.cells [AV.int .i64 1, AV.int .i64 0] 23), some (AObj.cells [AV.int .i64 xm, AV.int .i64 xe] 23), none]⟩

theorem pow_last (am ae n : Int) (N : Nat) (xm xe : Int) (hN : N ≤ 100) : Tri Try.prog (loopN (bodyOf Try.f20) 0) (pow_inv am ae n N xm xe N) (.exit 0) (pow_out am ae n xm xe) := by
  exact Tri.weak (ob := [AV.int .i64 n = AV.int .i64 n,
        AV.ptr 1 0 = AV.ptr 1 0,
        AV.int .i64 0 = AV.int .i64 0,
        AV.ptr 2 0 = AV.ptr 2 0,
        AV.ptr 3 0 = AV.ptr 3 0,
        AObj.cells [AV.int .i64 am, AV.int .i64 ae] 23 = AObj.cells [AV.int .i64 am, AV.int .i64 ae] 23,
        AObj.cells [AV.int .i64 0, AV.int .i64 0] 23 = AObj.cells [AV.int .i64 0, AV.int .i64 0] 23,
        AObj.cells [AV.int .i64 1, AV.int .i64 0] 23 = AObj.cells [AV.int .i64 1, AV.int .i64 0] 23,
        AObj.cells [AV.int .i64 xm, AV.int .i64 xe] 23 = AObj.cells [AV.int .i64 xm, AV.int .i64 xe] 23]) (exec_sound _ [.reg [(0, {val := some (AV.bool false)})]] _
    ⟨[AV.bool (decide (((N : Nat) : Int) < ((N : Nat) : Int))) = AV.bool false],
      .exit 0, ⟨[none, some (AV.int .i64 n), some (AV.ptr 0 0), none, some (AV.ptr 1 0), some (AV.int .i64 0), some (AV.ptr 2 0), some (AV.ptr 3 0), none, none, none, none, none, none, none, none, none, none, none, none, none, none, none, none, some (AV.int .i64 ((N : Nat) : Int)), some (AV.int .i64 ((N : Nat) : Int)), some (AV.bool false), none, none, none, none, none, none, none, none, none, none, none, none, none, none, none, none, none, none, none, none], [some (AObj.cells [AV.int .i64 am, AV.int .i64 ae] 23), some (AObj.cells [AV.int .i64 0, AV.int .i64 0] 23), some (AObj.cells [AV.int .i64 1, AV.int .i64 0] 23), some (AObj.cells [AV.int .i64 xm, AV.int .i64 xe] 23), none]⟩, []⟩ (by kernel_rfl)
    ⟨bF (by omega), trivial⟩) (by kernel_rfl)
    ⟨rfl, rfl, rfl, rfl, rfl, rfl, rfl, rfl, rfl, trivial⟩

theorem pow_l1 (am ae n : Int) (N : Nat) (hN : N ≤ 100) (h : (powL am ae N).2.2 = 0) : Tri Try.prog (.loop (loopN (bodyOf Try.f20) 0)) (pow_inv am ae n N 1 0 0) (.exit 0) (pow_out am ae n (powL am ae N).1 (powL am ae N).2.1) := by
  have main := tri_up (P := Try.prog) (body := loopN (bodyOf Try.f20) 0) (ex := .exit 0) (out := pow_out am ae n (powL am ae N).1 (powL am ae N).2.1) (fun k => pow_inv am ae n N (powL am ae k).1 (powL am ae k).2.1 k) (ne_normal_exit 0) N (fun k hk => by
    have ok : ∀ j, j ≤ N → (powL am ae j).2.2 = 0 := fun j hj => by
      by_cases e : (powL am ae j).2.2 = 0
      · exact e
      · have := powL_stays e N hj
        rw [this] at h; exact h
    have h0 := ok k (by omega)
    have h1 := ok (k + 1) (by omega)
    have e : powL am ae (k + 1) = mulR (powL am ae k).1 (powL am ae k).2.1 am ae := by
      rw [powL, if_pos h0] at h1 ⊢
      split
      · rfl
      · rename_i hc; rw [if_neg hc] at h1; exact absurd h1 hc
    rw [e]
    exact pow_round am ae n N _ _ k hN hk (by rw [← e]; exact h1)) (pow_last am ae n N _ _ hN) 0 (Nat.zero_le _)
  simpa only [powL] using main
theorem pow_l2 (am ae n : Int) (N : Nat) (hN : N ≤ 100) (h : ¬ (powL am ae N).2.2 = 0) : Tri Try.prog (.loop (loopN (bodyOf Try.f20) 0)) (pow_inv am ae n N 1 0 0) .ret (pow_ret (powL am ae N).2.2) := by
  have main := tri_loop (P := Try.prog) (body := loopN (bodyOf Try.f20) 0) (ex := .ret) (out := pow_ret (powL am ae N).2.2) (ι := {k : Nat // k ≤ N ∧ (powL am ae k).2.2 = 0}) (fun i => pow_inv am ae n N (powL am ae i.1).1 (powL am ae i.1).2.1 i.1) (fun i => N - i.1) ne_normal_ret (by
    rintro ⟨k, hk, h0⟩
    have hlt : k < N := by
      rcases Nat.lt_or_ge k N with g | g
      · exact g
      · rw [show N = k by omega] at h; exact absurd h0 h
    by_cases hc : (mulR (powL am ae k).1 (powL am ae k).2.1 am ae).2.2 = 0
    · have e : powL am ae (k + 1) = mulR (powL am ae k).1 (powL am ae k).2.1 am ae := by rw [powL, if_pos h0, if_pos hc]
      refine .inl ⟨⟨k + 1, by omega, by rw [e]; exact hc⟩, by show N - (k + 1) < N - k; omega, ?_⟩
      show Tri _ _ _ _ (pow_inv am ae n N (powL am ae (k + 1)).1 (powL am ae (k + 1)).2.1 (k + 1))
      rw [e]
      exact pow_round am ae n N _ _ k hN hlt hc
    · have e : powL am ae (k + 1) = (0, 0, (mulR (powL am ae k).1 (powL am ae k).2.1 am ae).2.2) := by rw [powL, if_pos h0, if_neg hc]
      have e2 : powL am ae N = powL am ae (k + 1) := powL_stays (by rw [e]; exact hc) N (by omega)
      refine .inr ?_
      rw [e2, e]
      exact pow_err am ae n N _ _ k hN hlt hc) ⟨0, Nat.zero_le _, by rw [powL]⟩
  simpa only [powL] using main

theorem power_meets (am ae n : Int) (hn : -9223372036854775808 ≤ n ∧ n < 9223372036854775808) : Meets Try.prog 20 [AV.agg [AV.int .i64 am, AV.int .i64 ae], AV.int .i64 n] [] (AV.tuple [AV.agg [AV.int .i64 ((powR am ae n).1), AV.int .i64 ((powR am ae n).2.1)], AV.int .i64 ((powR am ae n).2.2)]) [] := by
  by_cases c1 : rightB am ae = true
  · by_cases c2 : n < (-100)
    · exact meets_of_exec (fn := Try.f20) 5 [.reg [(0, {nm := [0]}), (1, {nm := [1]})], .reg [(0, {val := some (AV.agg [AV.int .i64 am, AV.int .i64 ae])}), (1, {call := some ⟨[], [AV.agg [AV.int .i64 am, AV.int .i64 ae]], [], AV.bool (rightB am ae), []⟩, val := some (AV.bool true)}), (2, {val := some (AV.bool false)})], .reg [(1, {val := some (AV.bool true)})], .reg [(1, {obj := some [AObj.cells [AV.int .i64 0, AV.int .i64 0] 23]})]] [{val := some (AV.agg [AV.int .i64 0, AV.int .i64 0])}, {}]
        (r := ⟨[0 ≤ 0,
            0 - 0 + 2 ≤ List.length [AV.int .i64 am, AV.int .i64 ae],
            List.take 2 (List.drop (0 - 0) [AV.int .i64 am, AV.int .i64 ae]) = [AV.int .i64 am, AV.int .i64 ae],
            [AV.agg [AV.int .i64 am, AV.int .i64 ae]] = renL [] [AV.agg [AV.int .i64 am, AV.int .i64 ae]],
            Meets Try.prog 30 [AV.agg [AV.int .i64 am, AV.int .i64 ae]] [] (AV.bool (rightB am ae)) [],
            AV.ren [] (AV.bool (rightB am ae)) = AV.bool true,
            AV.bool (!true) = AV.bool false,
            AV.bool (decide (n < (-100))) = AV.bool true,
            ([AV.int .i64 0, AV.int .i64 0] : List AV).length = 2,
            0 + 2 ≤ List.length [AV.int .i64 0, AV.int .i64 0],
            AObj.cells (List.take 0 [AV.int .i64 0, AV.int .i64 0] ++ [AV.int .i64 0, AV.int .i64 0] ++ List.drop (0 + 2) [AV.int .i64 0, AV.int .i64 0]) 23 = AObj.cells [AV.int .i64 0, AV.int .i64 0] 23],
          .ret, ⟨[some (AV.agg [AV.int .i64 am, AV.int .i64 ae]), some (AV.int .i64 n), some (AV.ptr 0 0), none, some (AV.ptr 1 0), some (AV.int .i64 2), none, none, none, none, some (AV.agg [AV.int .i64 am, AV.int .i64 ae]), some (AV.bool true), some (AV.bool false), none, some (AV.int .i64 n), some (AV.bool true), some (AV.bool true), some (AV.tuple []), some (AV.tuple []), some (AV.bool true), some (AV.agg [AV.int .i64 0, AV.int .i64 0]), none, none, none, none, none, none, none, none, none, none, none, none, none, none, none, none, none, none, none, none, none, none, none, none, none, none], [some (AObj.cells [AV.int .i64 am, AV.int .i64 ae] 23), some (AObj.cells [AV.int .i64 0, AV.int .i64 0] 23), none, none, none]⟩, []⟩)
        (ob := [0 ≤ 0,
            0 - 0 + 2 ≤ List.length [AV.int .i64 0, AV.int .i64 0],
            List.take 2 (List.drop (0 - 0) [AV.int .i64 0, AV.int .i64 0]) = [AV.int .i64 0, AV.int .i64 0],
            AV.tuple [AV.agg [AV.int .i64 0, AV.int .i64 0], AV.int .i64 2] = AV.tuple [AV.agg [AV.int .i64 ((powR am ae n).1), AV.int .i64 ((powR am ae n).2.1)], AV.int .i64 ((powR am ae n).2.2)],
            Avoid (fun n => decide (0 ≤ n)) (AV.tuple [AV.agg [AV.int .i64 ((powR am ae n).1), AV.int .i64 ((powR am ae n).2.1)], AV.int .i64 ((powR am ae n).2.2)])])
        Try.func20 (by kernel_rfl) Try.call20 (by kernel_rfl)
        ⟨Nat.zero_le _, Nat.le_of_ble_eq_true rfl, rfl, rfl, right_meets am ae, boolT c1, rfl, bT c2, rfl, Nat.le_of_ble_eq_true rfl, rfl, trivial⟩
        (.inl rfl) (by kernel_rfl) ⟨Nat.zero_le _, Nat.le_of_ble_eq_true rfl, rfl, by simp [powR, bad3, *], Avoid.tuple (AvoidL.cons (Avoid.agg (AvoidL.cons (Avoid.int _ _ _) (AvoidL.cons (Avoid.int _ _ _) (AvoidL.nil _)))) (AvoidL.cons (Avoid.int _ _ _) (AvoidL.nil _))), trivial⟩
    · by_cases c3 : n > 100
      · exact meets_of_exec (fn := Try.f20) 5 [.reg [(0, {nm := [0]}), (1, {nm := [1]})], .reg [(0, {val := some (AV.agg [AV.int .i64 am, AV.int .i64 ae])}), (1, {call := some ⟨[], [AV.agg [AV.int .i64 am, AV.int .i64 ae]], [], AV.bool (rightB am ae), []⟩, val := some (AV.bool true)}), (2, {val := some (AV.bool false)})], .reg [(1, {val := some (AV.bool false)}), (4, {val := some (AV.bool true)})], .reg [(1, {obj := some [AObj.cells [AV.int .i64 0, AV.int .i64 0] 23]})]] [{val := some (AV.agg [AV.int .i64 0, AV.int .i64 0])}, {}]
          (r := ⟨[0 ≤ 0,
              0 - 0 + 2 ≤ List.length [AV.int .i64 am, AV.int .i64 ae],
              List.take 2 (List.drop (0 - 0) [AV.int .i64 am, AV.int .i64 ae]) = [AV.int .i64 am, AV.int .i64 ae],
              [AV.agg [AV.int .i64 am, AV.int .i64 ae]] = renL [] [AV.agg [AV.int .i64 am, AV.int .i64 ae]],
              Meets Try.prog 30 [AV.agg [AV.int .i64 am, AV.int .i64 ae]] [] (AV.bool (rightB am ae)) [],
              AV.ren [] (AV.bool (rightB am ae)) = AV.bool true,
              AV.bool (!true) = AV.bool false,
              AV.bool (decide (n < (-100))) = AV.bool false,
              AV.bool (decide (n > 100)) = AV.bool true,
              ([AV.int .i64 0, AV.int .i64 0] : List AV).length = 2,
              0 + 2 ≤ List.length [AV.int .i64 0, AV.int .i64 0],
              AObj.cells (List.take 0 [AV.int .i64 0, AV.int .i64 0] ++ [AV.int .i64 0, AV.int .i64 0] ++ List.drop (0 + 2) [AV.int .i64 0, AV.int .i64 0]) 23 = AObj.cells [AV.int .i64 0, AV.int .i64 0] 23],
            .ret, ⟨[some (AV.agg [AV.int .i64 am, AV.int .i64 ae]), some (AV.int .i64 n), some (AV.ptr 0 0), none, some (AV.ptr 1 0), some (AV.int .i64 2), none, none, none, none, some (AV.agg [AV.int .i64 am, AV.int .i64 ae]), some (AV.bool true), some (AV.bool false), none, some (AV.int .i64 n), some (AV.bool false), some (AV.bool false), some (AV.int .i64 n), some (AV.bool true), some (AV.bool true), some (AV.agg [AV.int .i64 0, AV.int .i64 0]), none, none, none, none, none, none, none, none, none, none, none, none, none, none, none, none, none, none, none, none, none, none, none, none, none, none], [some (AObj.cells [AV.int .i64 am, AV.int .i64 ae] 23), some (AObj.cells [AV.int .i64 0, AV.int .i64 0] 23), none, none, none]⟩, []⟩)
          (ob := [0 ≤ 0,
              0 - 0 + 2 ≤ List.length [AV.int .i64 0, AV.int .i64 0],
              List.take 2 (List.drop (0 - 0) [AV.int .i64 0, AV.int .i64 0]) = [AV.int .i64 0, AV.int .i64 0],
              AV.tuple [AV.agg [AV.int .i64 0, AV.int .i64 0], AV.int .i64 2] = AV.tuple [AV.agg [AV.int .i64 ((powR am ae n).1), AV.int .i64 ((powR am ae n).2.1)], AV.int .i64 ((powR am ae n).2.2)],
              Avoid (fun n => decide (0 ≤ n)) (AV.tuple [AV.agg [AV.int .i64 ((powR am ae n).1), AV.int .i64 ((powR am ae n).2.1)], AV.int .i64 ((powR am ae n).2.2)])])
          Try.func20 (by kernel_rfl) Try.call20 (by kernel_rfl)
          ⟨Nat.zero_le _, Nat.le_of_ble_eq_true rfl, rfl, rfl, right_meets am ae, boolT c1, rfl, bF c2, bT c3, rfl, Nat.le_of_ble_eq_true rfl, rfl, trivial⟩
          (.inl rfl) (by kernel_rfl) ⟨Nat.zero_le _, Nat.le_of_ble_eq_true rfl, rfl, by simp [powR, bad3, *], Avoid.tuple (AvoidL.cons (Avoid.agg (AvoidL.cons (Avoid.int _ _ _) (AvoidL.cons (Avoid.int _ _ _) (AvoidL.nil _)))) (AvoidL.cons (Avoid.int _ _ _) (AvoidL.nil _))), trivial⟩
      · by_cases c4 : (powL am ae n.natAbs).2.2 = 0
        · by_cases c5 : n < 0
          · exact meets_of_exec (fn := Try.f20) 5 [.reg [(0, {nm := [0]}), (1, {nm := [1]})], .reg [(0, {val := some (AV.agg [AV.int .i64 am, AV.int .i64 ae])}), (1, {call := some ⟨[], [AV.agg [AV.int .i64 am, AV.int .i64 ae]], [], AV.bool (rightB am ae), []⟩, val := some (AV.bool true)}), (2, {val := some (AV.bool false)})], .reg [(1, {val := some (AV.bool false)}), (4, {val := some (AV.bool false)})], .reg [(0, {val := some (AV.agg [AV.int .i64 1, AV.int .i64 0])}), (1, {nm := [2]}), (2, {obj := some [AObj.cells [AV.int .i64 1, AV.int .i64 0] 23]})], .reg [(0, {val := some (AV.agg [AV.int .i64 1, AV.int .i64 0])}), (1, {nm := [3]}), (2, {obj := some [AObj.cells [AV.int .i64 1, AV.int .i64 0] 23]})], .reg [(1, {call := some ⟨[], [AV.int .i64 n], [], AV.int .i64 ((n.natAbs : Nat) : Int), []⟩})], .loop (⟨[none, some (AV.int .i64 n), some (AV.ptr 0 0), none, some (AV.ptr 1 0), some (AV.int .i64 0), some (AV.ptr 2 0), some (AV.ptr 3 0), none, none, none, none, none, none, none, none, none, none, none, none, none, none, none, none, some (AV.int .i64 ((n.natAbs : Nat) : Int)), some (AV.int .i64 0), none, none, none, none, none, none, none, none, none, none, none, none, none, none, none, none, none, none, none, none, none], [some (AObj.cells [AV.int .i64 am, AV.int .i64 ae] 23), some (AObj.cells [AV.int .i64 0, AV.int .i64 0] 23), some (AObj.cells [AV.int .i64 1, AV.int .i64 0] 23), some (AObj.cells [AV.int .i64 1, AV.int .i64 0] 23), none]⟩) (.exit 0) (⟨[none, some (AV.int .i64 n), none, none, some (AV.ptr 1 0), some (AV.int .i64 0), some (AV.ptr 2 0), some (AV.ptr 3 0), none, none, none, none, none, none, none, none, none, none, none, none, none, none, none, none, none, none, none, none, none, none, none, none, none, none, none, none, none, none, none, none, none, none, none, none, none, none, none], [some (AObj.cells [AV.int .i64 am, AV.int .i64 ae] 23), some (AObj.cells [AV.int .i64 0, AV.int .i64 0] 23), some (AObj.cells [AV.int .i64 1, AV.int .i64 0] 23), some (AObj.cells [AV.int .i64 ((powL am ae n.natAbs).1), AV.int .i64 ((powL am ae n.natAbs).2.1)] 23), none]⟩), .reg [(1, {val := some (AV.bool true)})], .reg [(0, {val := some (AV.agg [AV.int .i64 1, AV.int .i64 0])}), (1, {val := some (AV.agg [AV.int .i64 ((powL am ae n.natAbs).1), AV.int .i64 ((powL am ae n.natAbs).2.1)])}), (2, {call := some ⟨[], [AV.agg [AV.int .i64 1, AV.int .i64 0], AV.agg [AV.int .i64 ((powL am ae n.natAbs).1), AV.int .i64 ((powL am ae n.natAbs).2.1)]], [], AV.tuple [AV.agg [AV.int .i64 ((divR 1 0 (powL am ae n.natAbs).1 (powL am ae n.natAbs).2.1).1), AV.int .i64 ((divR 1 0 (powL am ae n.natAbs).1 (powL am ae n.natAbs).2.1).2.1)], AV.int .i64 ((divR 1 0 (powL am ae n.natAbs).1 (powL am ae n.natAbs).2.1).2.2)], []⟩}), (5, {obj := some [AObj.cells [AV.int .i64 ((divR 1 0 (powL am ae n.natAbs).1 (powL am ae n.natAbs).2.1).1), AV.int .i64 ((divR 1 0 (powL am ae n.natAbs).1 (powL am ae n.natAbs).2.1).2.1)] 23]})]] [{val := some (AV.agg [AV.int .i64 ((divR 1 0 (powL am ae n.natAbs).1 (powL am ae n.natAbs).2.1).1), AV.int .i64 ((divR 1 0 (powL am ae n.natAbs).1 (powL am ae n.natAbs).2.1).2.1)])}, {}]
              (r := ⟨[0 ≤ 0,
                  0 - 0 + 2 ≤ List.length [AV.int .i64 am, AV.int .i64 ae],
                  List.take 2 (List.drop (0 - 0) [AV.int .i64 am, AV.int .i64 ae]) = [AV.int .i64 am, AV.int .i64 ae],
                  [AV.agg [AV.int .i64 am, AV.int .i64 ae]] = renL [] [AV.agg [AV.int .i64 am, AV.int .i64 ae]],
                  Meets Try.prog 30 [AV.agg [AV.int .i64 am, AV.int .i64 ae]] [] (AV.bool (rightB am ae)) [],
                  AV.ren [] (AV.bool (rightB am ae)) = AV.bool true,
                  AV.bool (!true) = AV.bool false,
                  AV.bool (decide (n < (-100))) = AV.bool false,
                  AV.bool (decide (n > 100)) = AV.bool false,
                  ([AV.int .i64 1] : List AV).length = 1,
                  0 + 1 ≤ ([AV.int .i64 0, AV.int .i64 0] : List AV).length,
                  AV.agg (List.take 0 [AV.int .i64 0, AV.int .i64 0] ++ [AV.int .i64 1] ++ List.drop 1 [AV.int .i64 0, AV.int .i64 0]) = AV.agg [AV.int .i64 1, AV.int .i64 0],
                  ([AV.int .i64 1, AV.int .i64 0] : List AV).length = 2,
                  0 + 2 ≤ List.length [AV.int .i64 0, AV.int .i64 0],
                  AObj.cells (List.take 0 [AV.int .i64 0, AV.int .i64 0] ++ [AV.int .i64 1, AV.int .i64 0] ++ List.drop (0 + 2) [AV.int .i64 0, AV.int .i64 0]) 23 = AObj.cells [AV.int .i64 1, AV.int .i64 0] 23,
                  0 ≤ 0,
                  0 - 0 + 2 ≤ List.length [AV.int .i64 1, AV.int .i64 0],
                  List.take 2 (List.drop (0 - 0) [AV.int .i64 1, AV.int .i64 0]) = [AV.int .i64 1, AV.int .i64 0],
                  ([AV.int .i64 1, AV.int .i64 0] : List AV).length = 2,
                  0 + 2 ≤ List.length [AV.int .i64 0, AV.int .i64 0],
                  AObj.cells (List.take 0 [AV.int .i64 0, AV.int .i64 0] ++ [AV.int .i64 1, AV.int .i64 0] ++ List.drop (0 + 2) [AV.int .i64 0, AV.int .i64 0]) 23 = AObj.cells [AV.int .i64 1, AV.int .i64 0] 23,
                  [AV.int .i64 n] = renL [] [AV.int .i64 n],
                  Meets Try.prog 52 [AV.int .i64 n] [] (AV.int .i64 ((n.natAbs : Nat) : Int)) [],
                  AV.int .i64 n = AV.int .i64 n,
                  AV.ptr 0 0 = AV.ptr 0 0,
                  AV.ptr 1 0 = AV.ptr 1 0,
                  AV.int .i64 0 = AV.int .i64 0,
                  AV.ptr 2 0 = AV.ptr 2 0,
                  AV.ptr 3 0 = AV.ptr 3 0,
                  AV.int .i64 ((n.natAbs : Nat) : Int) = AV.int .i64 ((n.natAbs : Nat) : Int),
                  AV.int .i64 0 = AV.int .i64 0,
                  AObj.cells [AV.int .i64 am, AV.int .i64 ae] 23 = AObj.cells [AV.int .i64 am, AV.int .i64 ae] 23,
                  AObj.cells [AV.int .i64 0, AV.int .i64 0] 23 = AObj.cells [AV.int .i64 0, AV.int .i64 0] 23,
                  AObj.cells [AV.int .i64 1, AV.int .i64 0] 23 = AObj.cells [AV.int .i64 1, AV.int .i64 0] 23,
                  AObj.cells [AV.int .i64 1, AV.int .i64 0] 23 = AObj.cells [AV.int .i64 1, AV.int .i64 0] 23,
                  Tri Try.prog (.loop (loopN (bodyOf Try.f20) 0)) (⟨[none, some (AV.int .i64 n), some (AV.ptr 0 0), none, some (AV.ptr 1 0), some (AV.int .i64 0), some (AV.ptr 2 0), some (AV.ptr 3 0), none, none, none, none, none, none, none, none, none, none, none, none, none, none, none, none, some (AV.int .i64 ((n.natAbs : Nat) : Int)), some (AV.int .i64 0), none, none, none, none, none, none, none, none, none, none, none, none, none, none, none, none, none, none, none, none, none], [some (AObj.cells [AV.int .i64 am, AV.int .i64 ae] 23), some (AObj.cells [AV.int .i64 0, AV.int .i64 0] 23), some (AObj.cells [AV.int .i64 1, AV.int .i64 0] 23), some (AObj.cells [AV.int .i64 1, AV.int .i64 0] 23), none]⟩) (.exit 0) (⟨[none, some (AV.int .i64 n), none, none, some (AV.ptr 1 0), some (AV.int .i64 0), some (AV.ptr 2 0), some (AV.ptr 3 0), none, none, none, none, none, none, none, none, none, none, none, none, none, none, none, none, none, none, none, none, none, none, none, none, none, none, none, none, none, none, none, none, none, none, none, none, none, none, none], [some (AObj.cells [AV.int .i64 am, AV.int .i64 ae] 23), some (AObj.cells [AV.int .i64 0, AV.int .i64 0] 23), some (AObj.cells [AV.int .i64 1, AV.int .i64 0] 23), some (AObj.cells [AV.int .i64 ((powL am ae n.natAbs).1), AV.int .i64 ((powL am ae n.natAbs).2.1)] 23), none]⟩),
                  AV.bool (decide (n < 0)) = AV.bool true,
                  0 ≤ 0,
                  0 - 0 + 2 ≤ List.length [AV.int .i64 1, AV.int .i64 0],
                  List.take 2 (List.drop (0 - 0) [AV.int .i64 1, AV.int .i64 0]) = [AV.int .i64 1, AV.int .i64 0],
                  0 ≤ 0,
                  0 - 0 + 2 ≤ List.length [AV.int .i64 ((powL am ae n.natAbs).1), AV.int .i64 ((powL am ae n.natAbs).2.1)],
                  List.take 2 (List.drop (0 - 0) [AV.int .i64 ((powL am ae n.natAbs).1), AV.int .i64 ((powL am ae n.natAbs).2.1)]) = [AV.int .i64 ((powL am ae n.natAbs).1), AV.int .i64 ((powL am ae n.natAbs).2.1)],
                  [AV.agg [AV.int .i64 1, AV.int .i64 0], AV.agg [AV.int .i64 ((powL am ae n.natAbs).1), AV.int .i64 ((powL am ae n.natAbs).2.1)]] = renL [] [AV.agg [AV.int .i64 1, AV.int .i64 0], AV.agg [AV.int .i64 ((powL am ae n.natAbs).1), AV.int .i64 ((powL am ae n.natAbs).2.1)]],
                  Meets Try.prog 25 [AV.agg [AV.int .i64 1, AV.int .i64 0], AV.agg [AV.int .i64 ((powL am ae n.natAbs).1), AV.int .i64 ((powL am ae n.natAbs).2.1)]] [] (AV.tuple [AV.agg [AV.int .i64 ((divR 1 0 (powL am ae n.natAbs).1 (powL am ae n.natAbs).2.1).1), AV.int .i64 ((divR 1 0 (powL am ae n.natAbs).1 (powL am ae n.natAbs).2.1).2.1)], AV.int .i64 ((divR 1 0 (powL am ae n.natAbs).1 (powL am ae n.natAbs).2.1).2.2)]) [],
                  ([AV.int .i64 ((divR 1 0 (powL am ae n.natAbs).1 (powL am ae n.natAbs).2.1).1), AV.int .i64 ((divR 1 0 (powL am ae n.natAbs).1 (powL am ae n.natAbs).2.1).2.1)] : List AV).length = 2,
                  0 + 2 ≤ List.length [AV.int .i64 0, AV.int .i64 0],
                  AObj.cells (List.take 0 [AV.int .i64 0, AV.int .i64 0] ++ [AV.int .i64 ((divR 1 0 (powL am ae n.natAbs).1 (powL am ae n.natAbs).2.1).1), AV.int .i64 ((divR 1 0 (powL am ae n.natAbs).1 (powL am ae n.natAbs).2.1).2.1)] ++ List.drop (0 + 2) [AV.int .i64 0, AV.int .i64 0]) 23 = AObj.cells [AV.int .i64 ((divR 1 0 (powL am ae n.natAbs).1 (powL am ae n.natAbs).2.1).1), AV.int .i64 ((divR 1 0 (powL am ae n.natAbs).1 (powL am ae n.natAbs).2.1).2.1)] 23],
                .ret, ⟨[none, some (AV.int .i64 n), none, none, some (AV.ptr 1 0), some (AV.int .i64 ((divR 1 0 (powL am ae n.natAbs).1 (powL am ae n.natAbs).2.1).2.2)), some (AV.ptr 2 0), some (AV.ptr 3 0), none, none, none, none, none, none, none, none, none, none, none, none, none, none, none, none, none, none, none, none, none, none, none, none, none, none, none, none, none, none, none, some (AV.int .i64 n), some (AV.bool true), some (AV.agg [AV.int .i64 1, AV.int .i64 0]), some (AV.agg [AV.int .i64 ((powL am ae n.natAbs).1), AV.int .i64 ((powL am ae n.natAbs).2.1)]), some (AV.tuple [AV.agg [AV.int .i64 ((divR 1 0 (powL am ae n.natAbs).1 (powL am ae n.natAbs).2.1).1), AV.int .i64 ((divR 1 0 (powL am ae n.natAbs).1 (powL am ae n.natAbs).2.1).2.1)], AV.int .i64 ((divR 1 0 (powL am ae n.natAbs).1 (powL am ae n.natAbs).2.1).2.2)]), some (AV.agg [AV.int .i64 ((divR 1 0 (powL am ae n.natAbs).1 (powL am ae n.natAbs).2.1).1), AV.int .i64 ((divR 1 0 (powL am ae n.natAbs).1 (powL am ae n.natAbs).2.1).2.1)]), some (AV.int .i64 ((divR 1 0 (powL am ae n.natAbs).1 (powL am ae n.natAbs).2.1).2.2)), none], [some (AObj.cells [AV.int .i64 am, AV.int .i64 ae] 23), some (AObj.cells [AV.int .i64 ((divR 1 0 (powL am ae n.natAbs).1 (powL am ae n.natAbs).2.1).1), AV.int .i64 ((divR 1 0 (powL am ae n.natAbs).1 (powL am ae n.natAbs).2.1).2.1)] 23), some (AObj.cells [AV.int .i64 1, AV.int .i64 0] 23), some (AObj.cells [AV.int .i64 ((powL am ae n.natAbs).1), AV.int .i64 ((powL am ae n.natAbs).2.1)] 23), none]⟩, []⟩)
              (ob := [0 ≤ 0,
                  0 - 0 + 2 ≤ List.length [AV.int .i64 ((divR 1 0 (powL am ae n.natAbs).1 (powL am ae n.natAbs).2.1).1), AV.int .i64 ((divR 1 0 (powL am ae n.natAbs).1 (powL am ae n.natAbs).2.1).2.1)],
                  List.take 2 (List.drop (0 - 0) [AV.int .i64 ((divR 1 0 (powL am ae n.natAbs).1 (powL am ae n.natAbs).2.1).1), AV.int .i64 ((divR 1 0 (powL am ae n.natAbs).1 (powL am ae n.natAbs).2.1).2.1)]) = [AV.int .i64 ((divR 1 0 (powL am ae n.natAbs).1 (powL am ae n.natAbs).2.1).1), AV.int .i64 ((divR 1 0 (powL am ae n.natAbs).1 (powL am ae n.natAbs).2.1).2.1)],
                  AV.tuple [AV.agg [AV.int .i64 ((divR 1 0 (powL am ae n.natAbs).1 (powL am ae n.natAbs).2.1).1), AV.int .i64 ((divR 1 0 (powL am ae n.natAbs).1 (powL am ae n.natAbs).2.1).2.1)], AV.int .i64 ((divR 1 0 (powL am ae n.natAbs).1 (powL am ae n.natAbs).2.1).2.2)] = AV.tuple [AV.agg [AV.int .i64 ((powR am ae n).1), AV.int .i64 ((powR am ae n).2.1)], AV.int .i64 ((powR am ae n).2.2)],
                  Avoid (fun n => decide (0 ≤ n)) (AV.tuple [AV.agg [AV.int .i64 ((powR am ae n).1), AV.int .i64 ((powR am ae n).2.1)], AV.int .i64 ((powR am ae n).2.2)])])
              Try.func20 (by kernel_rfl) Try.call20 (by kernel_rfl)
              ⟨Nat.zero_le _, Nat.le_of_ble_eq_true rfl, rfl, rfl, right_meets am ae, boolT c1, rfl, bF c2, bF c3, rfl, Nat.le_of_ble_eq_true (by kernel_rfl), by kernel_rfl, rfl, Nat.le_of_ble_eq_true rfl, rfl, Nat.zero_le _, Nat.le_of_ble_eq_true rfl, rfl, rfl, Nat.le_of_ble_eq_true rfl, rfl, rfl, size_meets n (by omega), rfl, rfl, rfl, rfl, rfl, rfl, rfl, rfl, rfl, rfl, rfl, rfl, pow_l1 am ae n n.natAbs (by omega) c4, bT c5, Nat.zero_le _, Nat.le_of_ble_eq_true rfl, rfl, Nat.zero_le _, Nat.le_of_ble_eq_true rfl, rfl, rfl, div_meets _ _ _ _, rfl, Nat.le_of_ble_eq_true rfl, rfl, trivial⟩
              (.inl rfl) (by kernel_rfl) ⟨Nat.zero_le _, Nat.le_of_ble_eq_true rfl, rfl, by simp [powR, bad3, *], Avoid.tuple (AvoidL.cons (Avoid.agg (AvoidL.cons (Avoid.int _ _ _) (AvoidL.cons (Avoid.int _ _ _) (AvoidL.nil _)))) (AvoidL.cons (Avoid.int _ _ _) (AvoidL.nil _))), trivial⟩
          · exact meets_of_exec (fn := Try.f20) 5 [.reg [(0, {nm := [0]}), (1, {nm := [1]})], .reg [(0, {val := some (AV.agg [AV.int .i64 am, AV.int .i64 ae])}), (1, {call := some ⟨[], [AV.agg [AV.int .i64 am, AV.int .i64 ae]], [], AV.bool (rightB am ae), []⟩, val := some (AV.bool true)}), (2, {val := some (AV.bool false)})], .reg [(1, {val := some (AV.bool false)}), (4, {val := some (AV.bool false)})], .reg [(0, {val := some (AV.agg [AV.int .i64 1, AV.int .i64 0])}), (1, {nm := [2]}), (2, {obj := some [AObj.cells [AV.int .i64 1, AV.int .i64 0] 23]})], .reg [(0, {val := some (AV.agg [AV.int .i64 1, AV.int .i64 0])}), (1, {nm := [3]}), (2, {obj := some [AObj.cells [AV.int .i64 1, AV.int .i64 0] 23]})], .reg [(1, {call := some ⟨[], [AV.int .i64 n], [], AV.int .i64 ((n.natAbs : Nat) : Int), []⟩})], .loop (⟨[none, some (AV.int .i64 n), some (AV.ptr 0 0), none, some (AV.ptr 1 0), some (AV.int .i64 0), some (AV.ptr 2 0), some (AV.ptr 3 0), none, none, none, none, none, none, none, none, none, none, none, none, none, none, none, none, some (AV.int .i64 ((n.natAbs : Nat) : Int)), some (AV.int .i64 0), none, none, none, none, none, none, none, none, none, none, none, none, none, none, none, none, none, none, none, none, none], [some (AObj.cells [AV.int .i64 am, AV.int .i64 ae] 23), some (AObj.cells [AV.int .i64 0, AV.int .i64 0] 23), some (AObj.cells [AV.int .i64 1, AV.int .i64 0] 23), some (AObj.cells [AV.int .i64 1, AV.int .i64 0] 23), none]⟩) (.exit 0) (⟨[none, some (AV.int .i64 n), none, none, some (AV.ptr 1 0), some (AV.int .i64 0), some (AV.ptr 2 0), some (AV.ptr 3 0), none, none, none, none, none, none, none, none, none, none, none, none, none, none, none, none, none, none, none, none, none, none, none, none, none, none, none, none, none, none, none, none, none, none, none, none, none, none, none], [some (AObj.cells [AV.int .i64 am, AV.int .i64 ae] 23), some (AObj.cells [AV.int .i64 0, AV.int .i64 0] 23), some (AObj.cells [AV.int .i64 1, AV.int .i64 0] 23), some (AObj.cells [AV.int .i64 ((powL am ae n.natAbs).1), AV.int .i64 ((powL am ae n.natAbs).2.1)] 23), none]⟩), .reg [(1, {val := some (AV.bool false)})], .reg [(0, {val := some (AV.agg [AV.int .i64 ((powL am ae n.natAbs).1), AV.int .i64 ((powL am ae n.natAbs).2.1)])}), (1, {obj := some [AObj.cells [AV.int .i64 ((powL am ae n.natAbs).1), AV.int .i64 ((powL am ae n.natAbs).2.1)] 23]})]] [{val := some (AV.agg [AV.int .i64 ((powL am ae n.natAbs).1), AV.int .i64 ((powL am ae n.natAbs).2.1)])}, {}]
              (r := ⟨[0 ≤ 0,
                  0 - 0 + 2 ≤ List.length [AV.int .i64 am, AV.int .i64 ae],
                  List.take 2 (List.drop (0 - 0) [AV.int .i64 am, AV.int .i64 ae]) = [AV.int .i64 am, AV.int .i64 ae],
                  [AV.agg [AV.int .i64 am, AV.int .i64 ae]] = renL [] [AV.agg [AV.int .i64 am, AV.int .i64 ae]],
                  Meets Try.prog 30 [AV.agg [AV.int .i64 am, AV.int .i64 ae]] [] (AV.bool (rightB am ae)) [],
                  AV.ren [] (AV.bool (rightB am ae)) = AV.bool true,
                  AV.bool (!true) = AV.bool false,
                  AV.bool (decide (n < (-100))) = AV.bool false,
                  AV.bool (decide (n > 100)) = AV.bool false,
                  ([AV.int .i64 1] : List AV).length = 1,
                  0 + 1 ≤ ([AV.int .i64 0, AV.int .i64 0] : List AV).length,
                  AV.agg (List.take 0 [AV.int .i64 0, AV.int .i64 0] ++ [AV.int .i64 1] ++ List.drop 1 [AV.int .i64 0, AV.int .i64 0]) = AV.agg [AV.int .i64 1, AV.int .i64 0],
                  ([AV.int .i64 1, AV.int .i64 0] : List AV).length = 2,
                  0 + 2 ≤ List.length [AV.int .i64 0, AV.int .i64 0],
                  AObj.cells (List.take 0 [AV.int .i64 0, AV.int .i64 0] ++ [AV.int .i64 1, AV.int .i64 0] ++ List.drop (0 + 2) [AV.int .i64 0, AV.int .i64 0]) 23 = AObj.cells [AV.int .i64 1, AV.int .i64 0] 23,
                  0 ≤ 0,
                  0 - 0 + 2 ≤ List.length [AV.int .i64 1, AV.int .i64 0],
                  List.take 2 (List.drop (0 - 0) [AV.int .i64 1, AV.int .i64 0]) = [AV.int .i64 1, AV.int .i64 0],
                  ([AV.int .i64 1, AV.int .i64 0] : List AV).length = 2,
                  0 + 2 ≤ List.length [AV.int .i64 0, AV.int .i64 0],
                  AObj.cells (List.take 0 [AV.int .i64 0, AV.int .i64 0] ++ [AV.int .i64 1, AV.int .i64 0] ++ List.drop (0 + 2) [AV.int .i64 0, AV.int .i64 0]) 23 = AObj.cells [AV.int .i64 1, AV.int .i64 0] 23,
                  [AV.int .i64 n] = renL [] [AV.int .i64 n],
                  Meets Try.prog 52 [AV.int .i64 n] [] (AV.int .i64 ((n.natAbs : Nat) : Int)) [],
                  AV.int .i64 n = AV.int .i64 n,
                  AV.ptr 0 0 = AV.ptr 0 0,
                  AV.ptr 1 0 = AV.ptr 1 0,
                  AV.int .i64 0 = AV.int .i64 0,
                  AV.ptr 2 0 = AV.ptr 2 0,
                  AV.ptr 3 0 = AV.ptr 3 0,
                  AV.int .i64 ((n.natAbs : Nat) : Int) = AV.int .i64 ((n.natAbs : Nat) : Int),
                  AV.int .i64 0 = AV.int .i64 0,
                  AObj.cells [AV.int .i64 am, AV.int .i64 ae] 23 = AObj.cells [AV.int .i64 am, AV.int .i64 ae] 23,
                  AObj.cells [AV.int .i64 0, AV.int .i64 0] 23 = AObj.cells [AV.int .i64 0, AV.int .i64 0] 23,
                  AObj.cells [AV.int .i64 1, AV.int .i64 0] 23 = AObj.cells [AV.int .i64 1, AV.int .i64 0] 23,
                  AObj.cells [AV.int .i64 1, AV.int .i64 0] 23 = AObj.cells [AV.int .i64 1, AV.int .i64 0] 23,
                  Tri Try.prog (.loop (loopN (bodyOf Try.f20) 0)) (⟨[none, some (AV.int .i64 n), some (AV.ptr 0 0), none, some (AV.ptr 1 0), some (AV.int .i64 0), some (AV.ptr 2 0), some (AV.ptr 3 0), none, none, none, none, none, none, none, none, none, none, none, none, none, none, none, none, some (AV.int .i64 ((n.natAbs : Nat) : Int)), some (AV.int .i64 0), none, none, none, none, none, none, none, none, none, none, none, none, none, none, none, none, none, none, none, none, none], [some (AObj.cells [AV.int .i64 am, AV.int .i64 ae] 23), some (AObj.cells [AV.int .i64 0, AV.int .i64 0] 23), some (AObj.cells [AV.int .i64 1, AV.int .i64 0] 23), some (AObj.cells [AV.int .i64 1, AV.int .i64 0] 23), none]⟩) (.exit 0) (⟨[none, some (AV.int .i64 n), none, none, some (AV.ptr 1 0), some (AV.int .i64 0), some (AV.ptr 2 0), some (AV.ptr 3 0), none, none, none, none, none, none, none, none, none, none, none, none, none, none, none, none, none, none, none, none, none, none, none, none, none, none, none, none, none, none, none, none, none, none, none, none, none, none, none], [some (AObj.cells [AV.int .i64 am, AV.int .i64 ae] 23), some (AObj.cells [AV.int .i64 0, AV.int .i64 0] 23), some (AObj.cells [AV.int .i64 1, AV.int .i64 0] 23), some (AObj.cells [AV.int .i64 ((powL am ae n.natAbs).1), AV.int .i64 ((powL am ae n.natAbs).2.1)] 23), none]⟩),
                  AV.bool (decide (n < 0)) = AV.bool false,
                  0 ≤ 0,
                  0 - 0 + 2 ≤ List.length [AV.int .i64 ((powL am ae n.natAbs).1), AV.int .i64 ((powL am ae n.natAbs).2.1)],
                  List.take 2 (List.drop (0 - 0) [AV.int .i64 ((powL am ae n.natAbs).1), AV.int .i64 ((powL am ae n.natAbs).2.1)]) = [AV.int .i64 ((powL am ae n.natAbs).1), AV.int .i64 ((powL am ae n.natAbs).2.1)],
                  ([AV.int .i64 ((powL am ae n.natAbs).1), AV.int .i64 ((powL am ae n.natAbs).2.1)] : List AV).length = 2,
                  0 + 2 ≤ List.length [AV.int .i64 0, AV.int .i64 0],
                  AObj.cells (List.take 0 [AV.int .i64 0, AV.int .i64 0] ++ [AV.int .i64 ((powL am ae n.natAbs).1), AV.int .i64 ((powL am ae n.natAbs).2.1)] ++ List.drop (0 + 2) [AV.int .i64 0, AV.int .i64 0]) 23 = AObj.cells [AV.int .i64 ((powL am ae n.natAbs).1), AV.int .i64 ((powL am ae n.natAbs).2.1)] 23],
                .ret, ⟨[none, some (AV.int .i64 n), none, none, some (AV.ptr 1 0), some (AV.int .i64 0), some (AV.ptr 2 0), some (AV.ptr 3 0), none, none, none, none, none, none, none, none, none, none, none, none, none, none, none, none, none, none, none, none, none, none, none, none, none, none, none, none, none, none, none, some (AV.int .i64 n), some (AV.bool false), none, none, none, none, none, some (AV.agg [AV.int .i64 ((powL am ae n.natAbs).1), AV.int .i64 ((powL am ae n.natAbs).2.1)])], [some (AObj.cells [AV.int .i64 am, AV.int .i64 ae] 23), some (AObj.cells [AV.int .i64 ((powL am ae n.natAbs).1), AV.int .i64 ((powL am ae n.natAbs).2.1)] 23), some (AObj.cells [AV.int .i64 1, AV.int .i64 0] 23), some (AObj.cells [AV.int .i64 ((powL am ae n.natAbs).1), AV.int .i64 ((powL am ae n.natAbs).2.1)] 23), none]⟩, []⟩)
              (ob := [0 ≤ 0,
                  0 - 0 + 2 ≤ List.length [AV.int .i64 ((powL am ae n.natAbs).1), AV.int .i64 ((powL am ae n.natAbs).2.1)],
                  List.take 2 (List.drop (0 - 0) [AV.int .i64 ((powL am ae n.natAbs).1), AV.int .i64 ((powL am ae n.natAbs).2.1)]) = [AV.int .i64 ((powL am ae n.natAbs).1), AV.int .i64 ((powL am ae n.natAbs).2.1)],
                  AV.tuple [AV.agg [AV.int .i64 ((powL am ae n.natAbs).1), AV.int .i64 ((powL am ae n.natAbs).2.1)], AV.int .i64 0] = AV.tuple [AV.agg [AV.int .i64 ((powR am ae n).1), AV.int .i64 ((powR am ae n).2.1)], AV.int .i64 ((powR am ae n).2.2)],
                  Avoid (fun n => decide (0 ≤ n)) (AV.tuple [AV.agg [AV.int .i64 ((powR am ae n).1), AV.int .i64 ((powR am ae n).2.1)], AV.int .i64 ((powR am ae n).2.2)])])
              Try.func20 (by kernel_rfl) Try.call20 (by kernel_rfl)
              ⟨Nat.zero_le _, Nat.le_of_ble_eq_true rfl, rfl, rfl, right_meets am ae, boolT c1, rfl, bF c2, bF c3, rfl, Nat.le_of_ble_eq_true (by kernel_rfl), by kernel_rfl, rfl, Nat.le_of_ble_eq_true rfl, rfl, Nat.zero_le _, Nat.le_of_ble_eq_true rfl, rfl, rfl, Nat.le_of_ble_eq_true rfl, rfl, rfl, size_meets n (by omega), rfl, rfl, rfl, rfl, rfl, rfl, rfl, rfl, rfl, rfl, rfl, rfl, pow_l1 am ae n n.natAbs (by omega) c4, bF c5, Nat.zero_le _, Nat.le_of_ble_eq_true rfl, rfl, rfl, Nat.le_of_ble_eq_true rfl, rfl, trivial⟩
              (.inl rfl) (by kernel_rfl) ⟨Nat.zero_le _, Nat.le_of_ble_eq_true rfl, rfl, by simp [powR, bad3, *], Avoid.tuple (AvoidL.cons (Avoid.agg (AvoidL.cons (Avoid.int _ _ _) (AvoidL.cons (Avoid.int _ _ _) (AvoidL.nil _)))) (AvoidL.cons (Avoid.int _ _ _) (AvoidL.nil _))), trivial⟩
        · exact meets_of_exec (fn := Try.f20) 5 [.reg [(0, {nm := [0]}), (1, {nm := [1]})], .reg [(0, {val := some (AV.agg [AV.int .i64 am, AV.int .i64 ae])}), (1, {call := some ⟨[], [AV.agg [AV.int .i64 am, AV.int .i64 ae]], [], AV.bool (rightB am ae), []⟩, val := some (AV.bool true)}), (2, {val := some (AV.bool false)})], .reg [(1, {val := some (AV.bool false)}), (4, {val := some (AV.bool false)})], .reg [(0, {val := some (AV.agg [AV.int .i64 1, AV.int .i64 0])}), (1, {nm := [2]}), (2, {obj := some [AObj.cells [AV.int .i64 1, AV.int .i64 0] 23]})], .reg [(0, {val := some (AV.agg [AV.int .i64 1, AV.int .i64 0])}), (1, {nm := [3]}), (2, {obj := some [AObj.cells [AV.int .i64 1, AV.int .i64 0] 23]})], .reg [(1, {call := some ⟨[], [AV.int .i64 n], [], AV.int .i64 ((n.natAbs : Nat) : Int), []⟩})], .loop (⟨[none, some (AV.int .i64 n), some (AV.ptr 0 0), none, some (AV.ptr 1 0), some (AV.int .i64 0), some (AV.ptr 2 0), some (AV.ptr 3 0), none, none, none, none, none, none, none, none, none, none, none, none, none, none, none, none, some (AV.int .i64 ((n.natAbs : Nat) : Int)), some (AV.int .i64 0), none, none, none, none, none, none, none, none, none, none, none, none, none, none, none, none, none, none, none, none, none], [some (AObj.cells [AV.int .i64 am, AV.int .i64 ae] 23), some (AObj.cells [AV.int .i64 0, AV.int .i64 0] 23), some (AObj.cells [AV.int .i64 1, AV.int .i64 0] 23), some (AObj.cells [AV.int .i64 1, AV.int .i64 0] 23), none]⟩) .ret (⟨[none, none, none, none, some (AV.ptr 1 0), some (AV.int .i64 ((powL am ae n.natAbs).2.2)), none, none, none, none, none, none, none, none, none, none, none, none, none, none, none, none, none, none, none, none, none, none, none, none, none, none, none, none, none, none, none, none, none, none, none, none, none, none, none, none, none], [some (AObj.dead), some (AObj.cells [AV.int .i64 0, AV.int .i64 0] 23), some (AObj.dead), some (AObj.dead), none]⟩)] [{val := some (AV.agg [AV.int .i64 0, AV.int .i64 0])}, {}]
            (r := ⟨[0 ≤ 0,
                0 - 0 + 2 ≤ List.length [AV.int .i64 am, AV.int .i64 ae],
                List.take 2 (List.drop (0 - 0) [AV.int .i64 am, AV.int .i64 ae]) = [AV.int .i64 am, AV.int .i64 ae],
                [AV.agg [AV.int .i64 am, AV.int .i64 ae]] = renL [] [AV.agg [AV.int .i64 am, AV.int .i64 ae]],
                Meets Try.prog 30 [AV.agg [AV.int .i64 am, AV.int .i64 ae]] [] (AV.bool (rightB am ae)) [],
                AV.ren [] (AV.bool (rightB am ae)) = AV.bool true,
                AV.bool (!true) = AV.bool false,
                AV.bool (decide (n < (-100))) = AV.bool false,
                AV.bool (decide (n > 100)) = AV.bool false,
                ([AV.int .i64 1] : List AV).length = 1,
                0 + 1 ≤ ([AV.int .i64 0, AV.int .i64 0] : List AV).length,
                AV.agg (List.take 0 [AV.int .i64 0, AV.int .i64 0] ++ [AV.int .i64 1] ++ List.drop 1 [AV.int .i64 0, AV.int .i64 0]) = AV.agg [AV.int .i64 1, AV.int .i64 0],
                ([AV.int .i64 1, AV.int .i64 0] : List AV).length = 2,
                0 + 2 ≤ List.length [AV.int .i64 0, AV.int .i64 0],
                AObj.cells (List.take 0 [AV.int .i64 0, AV.int .i64 0] ++ [AV.int .i64 1, AV.int .i64 0] ++ List.drop (0 + 2) [AV.int .i64 0, AV.int .i64 0]) 23 = AObj.cells [AV.int .i64 1, AV.int .i64 0] 23,
                0 ≤ 0,
                0 - 0 + 2 ≤ List.length [AV.int .i64 1, AV.int .i64 0],
                List.take 2 (List.drop (0 - 0) [AV.int .i64 1, AV.int .i64 0]) = [AV.int .i64 1, AV.int .i64 0],
                ([AV.int .i64 1, AV.int .i64 0] : List AV).length = 2,
                0 + 2 ≤ List.length [AV.int .i64 0, AV.int .i64 0],
                AObj.cells (List.take 0 [AV.int .i64 0, AV.int .i64 0] ++ [AV.int .i64 1, AV.int .i64 0] ++ List.drop (0 + 2) [AV.int .i64 0, AV.int .i64 0]) 23 = AObj.cells [AV.int .i64 1, AV.int .i64 0] 23,
                [AV.int .i64 n] = renL [] [AV.int .i64 n],
                Meets Try.prog 52 [AV.int .i64 n] [] (AV.int .i64 ((n.natAbs : Nat) : Int)) [],
                AV.int .i64 n = AV.int .i64 n,
                AV.ptr 0 0 = AV.ptr 0 0,
                AV.ptr 1 0 = AV.ptr 1 0,
                AV.int .i64 0 = AV.int .i64 0,
                AV.ptr 2 0 = AV.ptr 2 0,
                AV.ptr 3 0 = AV.ptr 3 0,
                AV.int .i64 ((n.natAbs : Nat) : Int) = AV.int .i64 ((n.natAbs : Nat) : Int),
                AV.int .i64 0 = AV.int .i64 0,
                AObj.cells [AV.int .i64 am, AV.int .i64 ae] 23 = AObj.cells [AV.int .i64 am, AV.int .i64 ae] 23,
                AObj.cells [AV.int .i64 0, AV.int .i64 0] 23 = AObj.cells [AV.int .i64 0, AV.int .i64 0] 23,
                AObj.cells [AV.int .i64 1, AV.int .i64 0] 23 = AObj.cells [AV.int .i64 1, AV.int .i64 0] 23,
                AObj.cells [AV.int .i64 1, AV.int .i64 0] 23 = AObj.cells [AV.int .i64 1, AV.int .i64 0] 23,
                Tri Try.prog (.loop (loopN (bodyOf Try.f20) 0)) (⟨[none, some (AV.int .i64 n), some (AV.ptr 0 0), none, some (AV.ptr 1 0), some (AV.int .i64 0), some (AV.ptr 2 0), some (AV.ptr 3 0), none, none, none, none, none, none, none, none, none, none, none, none, none, none, none, none, some (AV.int .i64 ((n.natAbs : Nat) : Int)), some (AV.int .i64 0), none, none, none, none, none, none, none, none, none, none, none, none, none, none, none, none, none, none, none, none, none], [some (AObj.cells [AV.int .i64 am, AV.int .i64 ae] 23), some (AObj.cells [AV.int .i64 0, AV.int .i64 0] 23), some (AObj.cells [AV.int .i64 1, AV.int .i64 0] 23), some (AObj.cells [AV.int .i64 1, AV.int .i64 0] 23), none]⟩) .ret (⟨[none, none, none, none, some (AV.ptr 1 0), some (AV.int .i64 ((powL am ae n.natAbs).2.2)), none, none, none, none, none, none, none, none, none, none, none, none, none, none, none, none, none, none, none, none, none, none, none, none, none, none, none, none, none, none, none, none, none, none, none, none, none, none, none, none, none], [some (AObj.dead), some (AObj.cells [AV.int .i64 0, AV.int .i64 0] 23), some (AObj.dead), some (AObj.dead), none]⟩)],
              .ret, ⟨[none, none, none, none, some (AV.ptr 1 0), some (AV.int .i64 ((powL am ae n.natAbs).2.2)), none, none, none, none, none, none, none, none, none, none, none, none, none, none, none, none, none, none, none, none, none, none, none, none, none, none, none, none, none, none, none, none, none, none, none, none, none, none, none, none, none], [some (AObj.dead), some (AObj.cells [AV.int .i64 0, AV.int .i64 0] 23), some (AObj.dead), some (AObj.dead), none]⟩, []⟩)
            (ob := [0 ≤ 0,
                0 - 0 + 2 ≤ List.length [AV.int .i64 0, AV.int .i64 0],
                List.take 2 (List.drop (0 - 0) [AV.int .i64 0, AV.int .i64 0]) = [AV.int .i64 0, AV.int .i64 0],
                AV.tuple [AV.agg [AV.int .i64 0, AV.int .i64 0], AV.int .i64 ((powL am ae n.natAbs).2.2)] = AV.tuple [AV.agg [AV.int .i64 ((powR am ae n).1), AV.int .i64 ((powR am ae n).2.1)], AV.int .i64 ((powR am ae n).2.2)],
                Avoid (fun n => decide (0 ≤ n)) (AV.tuple [AV.agg [AV.int .i64 ((powR am ae n).1), AV.int .i64 ((powR am ae n).2.1)], AV.int .i64 ((powR am ae n).2.2)])])
            Try.func20 (by kernel_rfl) Try.call20 (by kernel_rfl)
            ⟨Nat.zero_le _, Nat.le_of_ble_eq_true rfl, rfl, rfl, right_meets am ae, boolT c1, rfl, bF c2, bF c3, rfl, Nat.le_of_ble_eq_true (by kernel_rfl), by kernel_rfl, rfl, Nat.le_of_ble_eq_true rfl, rfl, Nat.zero_le _, Nat.le_of_ble_eq_true rfl, rfl, rfl, Nat.le_of_ble_eq_true rfl, rfl, rfl, size_meets n (by omega), rfl, rfl, rfl, rfl, rfl, rfl, rfl, rfl, rfl, rfl, rfl, rfl, pow_l2 am ae n n.natAbs (by omega) c4, trivial⟩
            (.inl rfl) (by kernel_rfl) ⟨Nat.zero_le _, Nat.le_of_ble_eq_true rfl, rfl, by simp [powR, bad3, *], Avoid.tuple (AvoidL.cons (Avoid.agg (AvoidL.cons (Avoid.int _ _ _) (AvoidL.cons (Avoid.int _ _ _) (AvoidL.nil _)))) (AvoidL.cons (Avoid.int _ _ _) (AvoidL.nil _))), trivial⟩
  · exact meets_of_exec (fn := Try.f20) 5 [.reg [(0, {nm := [0]}), (1, {nm := [1]})], .reg [(0, {val := some (AV.agg [AV.int .i64 am, AV.int .i64 ae])}), (1, {call := some ⟨[], [AV.agg [AV.int .i64 am, AV.int .i64 ae]], [], AV.bool (rightB am ae), []⟩, val := some (AV.bool false)}), (2, {val := some (AV.bool true)})], .reg [(1, {obj := some [AObj.cells [AV.int .i64 0, AV.int .i64 0] 23]})]] [{val := some (AV.agg [AV.int .i64 0, AV.int .i64 0])}, {}]
      (r := ⟨[0 ≤ 0,
          0 - 0 + 2 ≤ List.length [AV.int .i64 am, AV.int .i64 ae],
          List.take 2 (List.drop (0 - 0) [AV.int .i64 am, AV.int .i64 ae]) = [AV.int .i64 am, AV.int .i64 ae],
          [AV.agg [AV.int .i64 am, AV.int .i64 ae]] = renL [] [AV.agg [AV.int .i64 am, AV.int .i64 ae]],
          Meets Try.prog 30 [AV.agg [AV.int .i64 am, AV.int .i64 ae]] [] (AV.bool (rightB am ae)) [],
          AV.ren [] (AV.bool (rightB am ae)) = AV.bool false,
          AV.bool (!false) = AV.bool true,
          ([AV.int .i64 0, AV.int .i64 0] : List AV).length = 2,
          0 + 2 ≤ List.length [AV.int .i64 0, AV.int .i64 0],
          AObj.cells (List.take 0 [AV.int .i64 0, AV.int .i64 0] ++ [AV.int .i64 0, AV.int .i64 0] ++ List.drop (0 + 2) [AV.int .i64 0, AV.int .i64 0]) 23 = AObj.cells [AV.int .i64 0, AV.int .i64 0] 23],
        .ret, ⟨[some (AV.agg [AV.int .i64 am, AV.int .i64 ae]), some (AV.int .i64 n), some (AV.ptr 0 0), none, some (AV.ptr 1 0), some (AV.int .i64 10), none, none, none, none, some (AV.agg [AV.int .i64 am, AV.int .i64 ae]), some (AV.bool false), some (AV.bool true), some (AV.agg [AV.int .i64 0, AV.int .i64 0]), none, none, none, none, none, none, none, none, none, none, none, none, none, none, none, none, none, none, none, none, none, none, none, none, none, none, none, none, none, none, none, none, none], [some (AObj.cells [AV.int .i64 am, AV.int .i64 ae] 23), some (AObj.cells [AV.int .i64 0, AV.int .i64 0] 23), none, none, none]⟩, []⟩)
      (ob := [0 ≤ 0,
          0 - 0 + 2 ≤ List.length [AV.int .i64 0, AV.int .i64 0],
          List.take 2 (List.drop (0 - 0) [AV.int .i64 0, AV.int .i64 0]) = [AV.int .i64 0, AV.int .i64 0],
          AV.tuple [AV.agg [AV.int .i64 0, AV.int .i64 0], AV.int .i64 10] = AV.tuple [AV.agg [AV.int .i64 ((powR am ae n).1), AV.int .i64 ((powR am ae n).2.1)], AV.int .i64 ((powR am ae n).2.2)],
          Avoid (fun n => decide (0 ≤ n)) (AV.tuple [AV.agg [AV.int .i64 ((powR am ae n).1), AV.int .i64 ((powR am ae n).2.1)], AV.int .i64 ((powR am ae n).2.2)])])
      Try.func20 (by kernel_rfl) Try.call20 (by kernel_rfl)
      ⟨Nat.zero_le _, Nat.le_of_ble_eq_true rfl, rfl, rfl, right_meets am ae, boolF c1, rfl, rfl, Nat.le_of_ble_eq_true rfl, rfl, trivial⟩
      (.inl rfl) (by kernel_rfl) ⟨Nat.zero_le _, Nat.le_of_ble_eq_true rfl, rfl, by simp [powR, bad3, *], Avoid.tuple (AvoidL.cons (Avoid.agg (AvoidL.cons (Avoid.int _ _ _) (AvoidL.cons (Avoid.int _ _ _) (AvoidL.nil _)))) (AvoidL.cons (Avoid.int _ _ _) (AvoidL.nil _))), trivial⟩

end Go.Proofs.Ytabgphldbgdbpaa
