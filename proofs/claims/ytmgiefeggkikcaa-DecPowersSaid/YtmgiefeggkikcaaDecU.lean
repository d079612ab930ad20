import Derived.Test.YtmgiefeggkikcaaDecN
set_option linter.unusedVariables false
set_option linter.unusedSimpArgs false
set_option maxRecDepth 20000
namespace Go.Proofs.Ytmgiefeggkikcaa
open Go Sx Dc

/-- 1 multiplied by a decimal so often. -/
def powL (am ae : Int) : Nat → Int × Int × Int
  | 0 => (1, 0, 0)
  | k + 1 => if (powL am ae k).2.2 = 0 then (if (mulR (powL am ae k).1 (powL am ae k).2.1 am ae).2.2 = 0 then mulR (powL am ae k).1 (powL am ae k).2.1 am ae else (0, 0, (mulR (powL am ae k).1 (powL am ae k).2.1 am ae).2.2)) else powL am ae k
def powR (am ae n : Int) : Int × Int × Int :=
  if rightB am ae = true then
    (if n < -100 ∨ n > 100 then (0, 0, 2) else
      (if (powL am ae n.natAbs).2.2 = 0 then (if n < 0 then divR 1 0 (powL am ae n.natAbs).1 (powL am ae n.natAbs).2.1 else ((powL am ae n.natAbs).1, (powL am ae n.natAbs).2.1, 0)) else (0, 0, (powL am ae n.natAbs).2.2)))
  else bad3
theorem powL_bad {am ae : Int} {k : Nat} (h : (powL am ae k).2.2 ≠ 0) : (powL am ae k).1 = 0 ∧ (powL am ae k).2.1 = 0 := by
  induction k with
  | zero => simp [powL] at h
  | succ k ih =>
    rw [powL] at h ⊢
    split
    · rename_i h0
      rw [if_pos h0] at h
      split
      · rename_i h1; rw [if_pos h1] at h; exact absurd h1 h
      · exact ⟨rfl, rfl⟩
    · rename_i h0; exact ih h0
theorem powL_stays {am ae : Int} {k : Nat} (h : (powL am ae k).2.2 ≠ 0) : ∀ n, k ≤ n → powL am ae n = powL am ae k
  | 0, hn => by rw [show k = 0 by omega]
  | n + 1, hn => by
    by_cases e : k = n + 1
    · rw [e]
    · have ih := powL_stays h n (by omega)
      rw [powL, ih, if_neg h]
attribute [irreducible] powL
attribute [local irreducible] mulR divR

def pow_inv (am ae n : Int) (N : Nat) (xm xe : Int) (k : Nat) : AState :=
  ⟨[none, sI n, sP 0 0, none, sP 1 0, sI 0, sP 2 0, sP 3 0, none, none, none, none, none, none, none, none, none, none, none, none, none, none, none, none, sI ((N : Nat) : Int), sI ((k : Nat) : Int), none, none, none, none, none, none, none, none, none, none, none, none, none, none, none, none, none, none, none, none, none], [some (jC [jI am, jI ae] 23), some (jC [jI 0, jI 0] 23), some (jC [jI 1, jI 0] 23), some (jC [jI xm, jI xe] 23), none]⟩

theorem pow_round (am ae n : Int) (N : Nat) (xm xe : Int) (k : Nat) (hN : N ≤ 100) (h1 : k < N) (h : (mulR xm xe am ae).2.2 = 0) : Tri Try.prog (loopN (bodyOf Try.f20) 0) (pow_inv am ae n N xm xe k) .normal (pow_inv am ae n N (mulR xm xe am ae).1 (mulR xm xe am ae).2.1 (k + 1)) := by
  exact tri_next [4] [rG [hhB 0 true], rG [hhV 0 (jA [jI xm, jI xe]), hhV 1 (jA [jI am, jI ae]), hhK 2 ([jA [jI xm, jI xe], jA [jI am, jI ae]]) (jT [jA [jI ((mulR xm xe am ae).1), jI ((mulR xm xe am ae).2.1)], jI ((mulR xm xe am ae).2.2)]), hhN 6 4, (7, {obj := some [jC [jI ((mulR xm xe am ae).1), jI ((mulR xm xe am ae).2.1)] 23]})], rG [hhB 1 false], rG [hhV 0 (jA [jI ((mulR xm xe am ae).1), jI ((mulR xm xe am ae).2.1)]), (1, {obj := some [jC [jI ((mulR xm xe am ae).1), jI ((mulR xm xe am ae).2.1)] 23]})], rG [hhI 0 ((k + 1 : Nat) : Int)]]
    (oA (oS (show AV.bool (decide (((k : Nat) : Int) < ((N : Nat) : Int))) = jB true from bT (by omega))) <| oA (oLw ([jI xm, jI xe]) (rfl)) <| oA (oLw ([jI am, jI ae]) (rfl)) <| oA (oC (show Meets Try.prog 23 [jA [jI xm, jI xe], jA [jI am, jI ae]] [] (jT [jA [jI ((mulR xm xe am ae).1), jI ((mulR xm xe am ae).2.1)], jI ((mulR xm xe am ae).2.2)]) [] from mul_meets _ _ _ _) rfl) <| oA (oSw ([jI ((mulR xm xe am ae).1), jI ((mulR xm xe am ae).2.1)]) ([jI 0, jI 0]) 23 (rfl) (rfl)) <| oA (oS (neF h)) <| oA (oLw ([jI ((mulR xm xe am ae).1), jI ((mulR xm xe am ae).2.1)]) (rfl)) <| oA (oSw ([jI ((mulR xm xe am ae).1), jI ((mulR xm xe am ae).2.1)]) ([jI xm, jI xe]) 23 (rfl) (rfl)) <| oW (((k : Nat) : Int) + 1) ((k + 1 : Nat) : Int) (by omega))
    (oA (oR [jI n, jP 0 0, jP 1 0, jI 0, jP 2 0, jP 3 0, jI ((N : Nat) : Int), jI ((k + 1 : Nat) : Int)]) <| oA (oQ [jC [jI am, jI ae] 23]) <| oA (oS (show AvoidO (fun n => [4].contains n) (jC [jI am, jI ae] 23) from AvoidO.cells (AvoidL.cons (Avoid.int _ _ _) (AvoidL.cons (Avoid.int _ _ _) (AvoidL.nil _))))) <| oA (oQ [jC [jI 0, jI 0] 23]) <| oA (oS (show AvoidO (fun n => [4].contains n) (jC [jI 0, jI 0] 23) from AvoidO.cells (AvoidL.cons (Avoid.int _ _ _) (AvoidL.cons (Avoid.int _ _ _) (AvoidL.nil _))))) <| oA (oQ [jC [jI 1, jI 0] 23]) <| oA (oS (show AvoidO (fun n => [4].contains n) (jC [jI 1, jI 0] 23) from AvoidO.cells (AvoidL.cons (Avoid.int _ _ _) (AvoidL.cons (Avoid.int _ _ _) (AvoidL.nil _))))) <| oA (oQ [jC [jI ((mulR xm xe am ae).1), jI ((mulR xm xe am ae).2.1)] 23]) <| oS (show AvoidO (fun n => [4].contains n) (jC [jI ((mulR xm xe am ae).1), jI ((mulR xm xe am ae).2.1)] 23) from AvoidO.cells (AvoidL.cons (Avoid.int _ _ _) (AvoidL.cons (Avoid.int _ _ _) (AvoidL.nil _))))) (by kernel_rfl) rfl

def pow_ret (e : Int) : AState :=
  ⟨[none, none, none, none, sP 1 0, sI e, none, none, none, none, none, none, none, none, none, none, none, none, none, none, none, none, none, none, none, none, none, none, none, none, none, none, none, none, none, none, none, none, none, none, none, none, none, none, none, none, none], [some (AObj.dead), some (jC [jI 0, jI 0] 23), some (AObj.dead), some (AObj.dead), none]⟩

theorem pow_err (am ae n : Int) (N : Nat) (xm xe : Int) (k : Nat) (hN : N ≤ 100) (h1 : k < N) (h : ¬ (mulR xm xe am ae).2.2 = 0) : Tri Try.prog (loopN (bodyOf Try.f20) 0) (pow_inv am ae n N xm xe k) .ret (pow_ret (mulR xm xe am ae).2.2) := by
  exact tri_next [4] [rG [hhB 0 true], rG [hhV 0 (jA [jI xm, jI xe]), hhV 1 (jA [jI am, jI ae]), hhK 2 ([jA [jI xm, jI xe], jA [jI am, jI ae]]) (jT [jA [jI ((mulR xm xe am ae).1), jI ((mulR xm xe am ae).2.1)], jI ((mulR xm xe am ae).2.2)]), hhN 6 4, (7, {obj := some [jC [jI ((mulR xm xe am ae).1), jI ((mulR xm xe am ae).2.1)] 23]})], rG [hhB 1 true], rG [(2, {obj := some [jC [jI 0, jI 0] 23]})]]
    (oA (oS (show AV.bool (decide (((k : Nat) : Int) < ((N : Nat) : Int))) = jB true from bT (by omega))) <| oA (oLw ([jI xm, jI xe]) (rfl)) <| oA (oLw ([jI am, jI ae]) (rfl)) <| oA (oC (show Meets Try.prog 23 [jA [jI xm, jI xe], jA [jI am, jI ae]] [] (jT [jA [jI ((mulR xm xe am ae).1), jI ((mulR xm xe am ae).2.1)], jI ((mulR xm xe am ae).2.2)]) [] from mul_meets _ _ _ _) rfl) <| oA (oSw ([jI ((mulR xm xe am ae).1), jI ((mulR xm xe am ae).2.1)]) ([jI 0, jI 0]) 23 (rfl) (rfl)) <| oA (oS (neT h)) <| oSw ([jI 0, jI 0]) ([jI 0, jI 0]) 23 (rfl) (rfl))
    (oA (oR [jP 1 0, jI ((mulR xm xe am ae).2.2)]) <| oA (oQ [jC [jI 0, jI 0] 23]) <| oS (show AvoidO (fun n => [4].contains n) (jC [jI 0, jI 0] 23) from AvoidO.cells (AvoidL.cons (Avoid.int _ _ _) (AvoidL.cons (Avoid.int _ _ _) (AvoidL.nil _))))) (by kernel_rfl) rfl

def pow_out (am ae n xm xe : Int) : AState :=
  ⟨[none, sI n, none, none, sP 1 0, sI 0, sP 2 0, sP 3 0, none, none, none, none, none, none, none, none, none, none, none, none, none, none, none, none, none, none, none, none, none, none, none, none, none, none, none, none, none, none, none, none, none, none, none, none, none, none, none], [some (jC [jI am, jI ae] 23), some (jC [jI 0, jI 0] 23), some (jC [jI 1, jI 0] 23), some (jC [jI xm, jI xe] 23), none]⟩

theorem pow_last (am ae n : Int) (N : Nat) (xm xe : Int) (hN : N ≤ 100) : Tri Try.prog (loopN (bodyOf Try.f20) 0) (pow_inv am ae n N xm xe N) (.exit 0) (pow_out am ae n xm xe) := by
  exact tri_weak [rG [hhB 0 false]]
    (oS (show AV.bool (decide (((N : Nat) : Int) < ((N : Nat) : Int))) = jB false from bF (by omega)))
    (oA (oR [jI n, jP 1 0, jI 0, jP 2 0, jP 3 0]) <| oQ [jC [jI am, jI ae] 23, jC [jI 0, jI 0] 23, jC [jI 1, jI 0] 23, jC [jI xm, jI xe] 23]) (by kernel_rfl)

theorem pow_l1 (am ae n : Int) (N : Nat) (hN : N ≤ 100) (h : (powL am ae N).2.2 = 0) : Tri Try.prog (.loop (loopN (bodyOf Try.f20) 0)) (pow_inv am ae n N 1 0 0) (.exit 0) (pow_out am ae n (powL am ae N).1 (powL am ae N).2.1) := by
  have main := tri_up (P := Try.prog) (body := loopN (bodyOf Try.f20) 0) (ex := .exit 0) (out := pow_out am ae n (powL am ae N).1 (powL am ae N).2.1) (fun k => pow_inv am ae n N (powL am ae k).1 (powL am ae k).2.1 k) (ne_normal_exit 0) N (fun k hk => by
    have ok : ∀ j, j ≤ N → (powL am ae j).2.2 = 0 := fun j hj => by
      by_cases e : (powL am ae j).2.2 = 0
      · exact e
      · have := powL_stays e N hj
        rw [this] at h; exact h
    have h0 := ok k (by omega)
    have h1 := ok (k + 1) (by omega)
    have e : powL am ae (k + 1) = mulR (powL am ae k).1 (powL am ae k).2.1 am ae := by
      rw [powL, if_pos h0] at h1 ⊢
      split
      · rfl
      · rename_i hc; rw [if_neg hc] at h1; exact absurd h1 hc
    rw [e]
    exact pow_round am ae n N _ _ k hN hk (by rw [← e]; exact h1)) (pow_last am ae n N _ _ hN) 0 (Nat.zero_le _)
  simpa only [powL] using main
theorem pow_l2 (am ae n : Int) (N : Nat) (hN : N ≤ 100) (h : ¬ (powL am ae N).2.2 = 0) : Tri Try.prog (.loop (loopN (bodyOf Try.f20) 0)) (pow_inv am ae n N 1 0 0) .ret (pow_ret (powL am ae N).2.2) := by
  have main := tri_loop (P := Try.prog) (body := loopN (bodyOf Try.f20) 0) (ex := .ret) (out := pow_ret (powL am ae N).2.2) (ι := {k : Nat // k ≤ N ∧ (powL am ae k).2.2 = 0}) (fun i => pow_inv am ae n N (powL am ae i.1).1 (powL am ae i.1).2.1 i.1) (fun i => N - i.1) ne_normal_ret (by
    rintro ⟨k, hk, h0⟩
    have hlt : k < N := by
      rcases Nat.lt_or_ge k N with g | g
      · exact g
      · rw [show N = k by omega] at h; exact absurd h0 h
    by_cases hc : (mulR (powL am ae k).1 (powL am ae k).2.1 am ae).2.2 = 0
    · have e : powL am ae (k + 1) = mulR (powL am ae k).1 (powL am ae k).2.1 am ae := by rw [powL, if_pos h0, if_pos hc]
      refine .inl ⟨⟨k + 1, by omega, by rw [e]; exact hc⟩, by show N - (k + 1) < N - k; omega, ?_⟩
      show Tri _ _ _ _ (pow_inv am ae n N (powL am ae (k + 1)).1 (powL am ae (k + 1)).2.1 (k + 1))
      rw [e]
      exact pow_round am ae n N _ _ k hN hlt hc
    · have e : powL am ae (k + 1) = (0, 0, (mulR (powL am ae k).1 (powL am ae k).2.1 am ae).2.2) := by rw [powL, if_pos h0, if_neg hc]
      have e2 : powL am ae N = powL am ae (k + 1) := powL_stays (by rw [e]; exact hc) N (by omega)
      refine .inr ?_
      rw [e2, e]
      exact pow_err am ae n N _ _ k hN hlt hc) ⟨0, Nat.zero_le _, by rw [powL]⟩
  simpa only [powL] using main

theorem power_meets (am ae n : Int) (hn : -9223372036854775808 ≤ n ∧ n < 9223372036854775808) : Meets Try.prog 20 [jA [jI am, jI ae], jI n] [] (jT [jA [jI ((powR am ae n).1), jI ((powR am ae n).2.1)], jI ((powR am ae n).2.2)]) [] := by
  have o1 := oA (oLw ([jI am, jI ae]) (rfl)) <| oC (right_meets am ae) rfl
  let q1 : List Orc := [rG [hhN 0 0, hhN 1 1]]
  by_cases c1 : rightB am ae = true
  · have o2 := oA (oS (boolT c1)) <| oS (show AV.bool (!true) = jB false from rfl)
    let q2 : List Orc := [rG [hhV 0 (jA [jI am, jI ae]), hhMB 1 (right_meets am ae) true, hhB 2 false]]
    by_cases c2 : n < (-100)
    · exact meets_run (fn := Try.f20) 5 (q1 ++ (q2 ++ [rG [hhB 1 true], rG [(1, {obj := some [jC [jI 0, jI 0] 23]})]])) [{val := some (jA [jI 0, jI 0])}, {}] Try.func20 (by kernel_rfl) Try.call20
        (oA o1 <| oA o2 <| oA (oS (bT c2)) <| oSw ([jI 0, jI 0]) ([jI 0, jI 0]) 23 (rfl) (rfl))
        (oA (oLw ([jI 0, jI 0]) (rfl)) <| oA (oS (show jT [jA [jI 0, jI 0], jI 2] = jT [jA [jI ((powR am ae n).1), jI ((powR am ae n).2.1)], jI ((powR am ae n).2.2)] from by simp [powR, bad3, *])) <| oV (D := (fun n => decide (0 ≤ n))) (jT [jA [jI ((powR am ae n).1), jI ((powR am ae n).2.1)], jI ((powR am ae n).2.2)]) rfl) (by kernel_rfl)
    · by_cases c3 : n > 100
      · exact meets_run (fn := Try.f20) 5 (q1 ++ (q2 ++ [rG [hhB 1 false, hhB 4 true], rG [(1, {obj := some [jC [jI 0, jI 0] 23]})]])) [{val := some (jA [jI 0, jI 0])}, {}] Try.func20 (by kernel_rfl) Try.call20
          (oA o1 <| oA o2 <| oA (oS (bF c2)) <| oA (oS (bT c3)) <| oSw ([jI 0, jI 0]) ([jI 0, jI 0]) 23 (rfl) (rfl))
          (oA (oLw ([jI 0, jI 0]) (rfl)) <| oA (oS (show jT [jA [jI 0, jI 0], jI 2] = jT [jA [jI ((powR am ae n).1), jI ((powR am ae n).2.1)], jI ((powR am ae n).2.2)] from by simp [powR, bad3, *])) <| oV (D := (fun n => decide (0 ≤ n))) (jT [jA [jI ((powR am ae n).1), jI ((powR am ae n).2.1)], jI ((powR am ae n).2.2)]) rfl) (by kernel_rfl)
      · have o3 := oA (oS (bF c2)) <| oA (oS (bF c3)) <| oA (oS (show ([jI 1] : List AV).length = 1 from rfl)) <| oA (oS (show 0 + 1 ≤ ([jI 0, jI 0] : List AV).length from Nat.le_of_ble_eq_true (by kernel_rfl))) <| oA (oS (show AV.agg (List.take 0 [jI 0, jI 0] ++ [jI 1] ++ List.drop 1 [jI 0, jI 0]) = jA [jI 1, jI 0] from by kernel_rfl)) <| oA (oSw ([jI 1, jI 0]) ([jI 0, jI 0]) 23 (rfl) (rfl)) <| oA (oLw ([jI 1, jI 0]) (rfl)) <| oA (oSw ([jI 1, jI 0]) ([jI 0, jI 0]) 23 (rfl) (rfl)) <| oC (size_meets n (by omega)) rfl
        let q3 : List Orc := [rG [hhB 1 false, hhB 4 false], rG [hhV 0 (jA [jI 1, jI 0]), hhN 1 2, (2, {obj := some [jC [jI 1, jI 0] 23]})], rG [hhV 0 (jA [jI 1, jI 0]), hhN 1 3, (2, {obj := some [jC [jI 1, jI 0] 23]})], rG [hhM 1 (size_meets n (by omega))]]
        by_cases c4 : (powL am ae n.natAbs).2.2 = 0
        · have o4 := oA (oR [jI n, jP 0 0, jP 1 0, jI 0, jP 2 0, jP 3 0, jI ((n.natAbs : Nat) : Int), jI 0]) <| oA (oQ [jC [jI am, jI ae] 23, jC [jI 0, jI 0] 23, jC [jI 1, jI 0] 23, jC [jI 1, jI 0] 23]) <| oS (show Tri Try.prog (.loop (loopN (bodyOf Try.f20) 0)) (⟨[none, sI n, sP 0 0, none, sP 1 0, sI 0, sP 2 0, sP 3 0, none, none, none, none, none, none, none, none, none, none, none, none, none, none, none, none, sI ((n.natAbs : Nat) : Int), sI 0, none, none, none, none, none, none, none, none, none, none, none, none, none, none, none, none, none, none, none, none, none], [some (jC [jI am, jI ae] 23), some (jC [jI 0, jI 0] 23), some (jC [jI 1, jI 0] 23), some (jC [jI 1, jI 0] 23), none]⟩) (.exit 0) (⟨[none, sI n, none, none, sP 1 0, sI 0, sP 2 0, sP 3 0, none, none, none, none, none, none, none, none, none, none, none, none, none, none, none, none, none, none, none, none, none, none, none, none, none, none, none, none, none, none, none, none, none, none, none, none, none, none, none], [some (jC [jI am, jI ae] 23), some (jC [jI 0, jI 0] 23), some (jC [jI 1, jI 0] 23), some (jC [jI ((powL am ae n.natAbs).1), jI ((powL am ae n.natAbs).2.1)] 23), none]⟩) from pow_l1 am ae n n.natAbs (by omega) c4)
          let q4 : List Orc := [.loop (⟨[none, sI n, sP 0 0, none, sP 1 0, sI 0, sP 2 0, sP 3 0, none, none, none, none, none, none, none, none, none, none, none, none, none, none, none, none, sI ((n.natAbs : Nat) : Int), sI 0, none, none, none, none, none, none, none, none, none, none, none, none, none, none, none, none, none, none, none, none, none], [some (jC [jI am, jI ae] 23), some (jC [jI 0, jI 0] 23), some (jC [jI 1, jI 0] 23), some (jC [jI 1, jI 0] 23), none]⟩) (.exit 0) (⟨[none, sI n, none, none, sP 1 0, sI 0, sP 2 0, sP 3 0, none, none, none, none, none, none, none, none, none, none, none, none, none, none, none, none, none, none, none, none, none, none, none, none, none, none, none, none, none, none, none, none, none, none, none, none, none, none, none], [some (jC [jI am, jI ae] 23), some (jC [jI 0, jI 0] 23), some (jC [jI 1, jI 0] 23), some (jC [jI ((powL am ae n.natAbs).1), jI ((powL am ae n.natAbs).2.1)] 23), none]⟩)]
          by_cases c5 : n < 0
          · exact meets_run (fn := Try.f20) 5 (q1 ++ (q2 ++ (q3 ++ (q4 ++ [rG [hhB 1 true], rG [hhV 0 (jA [jI 1, jI 0]), hhV 1 (jA [jI ((powL am ae n.natAbs).1), jI ((powL am ae n.natAbs).2.1)]), hhK 2 ([jA [jI 1, jI 0], jA [jI ((powL am ae n.natAbs).1), jI ((powL am ae n.natAbs).2.1)]]) (jT [jA [jI ((divR 1 0 (powL am ae n.natAbs).1 (powL am ae n.natAbs).2.1).1), jI ((divR 1 0 (powL am ae n.natAbs).1 (powL am ae n.natAbs).2.1).2.1)], jI ((divR 1 0 (powL am ae n.natAbs).1 (powL am ae n.natAbs).2.1).2.2)]), (5, {obj := some [jC [jI ((divR 1 0 (powL am ae n.natAbs).1 (powL am ae n.natAbs).2.1).1), jI ((divR 1 0 (powL am ae n.natAbs).1 (powL am ae n.natAbs).2.1).2.1)] 23]})]])))) [{val := some (jA [jI ((divR 1 0 (powL am ae n.natAbs).1 (powL am ae n.natAbs).2.1).1), jI ((divR 1 0 (powL am ae n.natAbs).1 (powL am ae n.natAbs).2.1).2.1)])}, {}] Try.func20 (by kernel_rfl) Try.call20
              (oA o1 <| oA o2 <| oA o3 <| oA o4 <| oA (oS (bT c5)) <| oA (oLw ([jI 1, jI 0]) (rfl)) <| oA (oLw ([jI ((powL am ae n.natAbs).1), jI ((powL am ae n.natAbs).2.1)]) (rfl)) <| oA (oC (show Meets Try.prog 25 [jA [jI 1, jI 0], jA [jI ((powL am ae n.natAbs).1), jI ((powL am ae n.natAbs).2.1)]] [] (jT [jA [jI ((divR 1 0 (powL am ae n.natAbs).1 (powL am ae n.natAbs).2.1).1), jI ((divR 1 0 (powL am ae n.natAbs).1 (powL am ae n.natAbs).2.1).2.1)], jI ((divR 1 0 (powL am ae n.natAbs).1 (powL am ae n.natAbs).2.1).2.2)]) [] from div_meets _ _ _ _) rfl) <| oSw ([jI ((divR 1 0 (powL am ae n.natAbs).1 (powL am ae n.natAbs).2.1).1), jI ((divR 1 0 (powL am ae n.natAbs).1 (powL am ae n.natAbs).2.1).2.1)]) ([jI 0, jI 0]) 23 (rfl) (rfl))
              (oA (oLw ([jI ((divR 1 0 (powL am ae n.natAbs).1 (powL am ae n.natAbs).2.1).1), jI ((divR 1 0 (powL am ae n.natAbs).1 (powL am ae n.natAbs).2.1).2.1)]) (rfl)) <| oA (oS (show jT [jA [jI ((divR 1 0 (powL am ae n.natAbs).1 (powL am ae n.natAbs).2.1).1), jI ((divR 1 0 (powL am ae n.natAbs).1 (powL am ae n.natAbs).2.1).2.1)], jI ((divR 1 0 (powL am ae n.natAbs).1 (powL am ae n.natAbs).2.1).2.2)] = jT [jA [jI ((powR am ae n).1), jI ((powR am ae n).2.1)], jI ((powR am ae n).2.2)] from by simp [powR, bad3, *])) <| oV (D := (fun n => decide (0 ≤ n))) (jT [jA [jI ((powR am ae n).1), jI ((powR am ae n).2.1)], jI ((powR am ae n).2.2)]) rfl) (by kernel_rfl)
          · exact meets_run (fn := Try.f20) 5 (q1 ++ (q2 ++ (q3 ++ (q4 ++ [rG [hhB 1 false], rG [hhV 0 (jA [jI ((powL am ae n.natAbs).1), jI ((powL am ae n.natAbs).2.1)]), (1, {obj := some [jC [jI ((powL am ae n.natAbs).1), jI ((powL am ae n.natAbs).2.1)] 23]})]])))) [{val := some (jA [jI ((powL am ae n.natAbs).1), jI ((powL am ae n.natAbs).2.1)])}, {}] Try.func20 (by kernel_rfl) Try.call20
              (oA o1 <| oA o2 <| oA o3 <| oA o4 <| oA (oS (bF c5)) <| oA (oLw ([jI ((powL am ae n.natAbs).1), jI ((powL am ae n.natAbs).2.1)]) (rfl)) <| oSw ([jI ((powL am ae n.natAbs).1), jI ((powL am ae n.natAbs).2.1)]) ([jI 0, jI 0]) 23 (rfl) (rfl))
              (oA (oLw ([jI ((powL am ae n.natAbs).1), jI ((powL am ae n.natAbs).2.1)]) (rfl)) <| oA (oS (show jT [jA [jI ((powL am ae n.natAbs).1), jI ((powL am ae n.natAbs).2.1)], jI 0] = jT [jA [jI ((powR am ae n).1), jI ((powR am ae n).2.1)], jI ((powR am ae n).2.2)] from by simp [powR, bad3, *])) <| oV (D := (fun n => decide (0 ≤ n))) (jT [jA [jI ((powR am ae n).1), jI ((powR am ae n).2.1)], jI ((powR am ae n).2.2)]) rfl) (by kernel_rfl)
        · exact meets_run (fn := Try.f20) 5 (q1 ++ (q2 ++ (q3 ++ [.loop (⟨[none, sI n, sP 0 0, none, sP 1 0, sI 0, sP 2 0, sP 3 0, none, none, none, none, none, none, none, none, none, none, none, none, none, none, none, none, sI ((n.natAbs : Nat) : Int), sI 0, none, none, none, none, none, none, none, none, none, none, none, none, none, none, none, none, none, none, none, none, none], [some (jC [jI am, jI ae] 23), some (jC [jI 0, jI 0] 23), some (jC [jI 1, jI 0] 23), some (jC [jI 1, jI 0] 23), none]⟩) .ret (⟨[none, none, none, none, sP 1 0, sI ((powL am ae n.natAbs).2.2), none, none, none, none, none, none, none, none, none, none, none, none, none, none, none, none, none, none, none, none, none, none, none, none, none, none, none, none, none, none, none, none, none, none, none, none, none, none, none, none, none], [some (AObj.dead), some (jC [jI 0, jI 0] 23), some (AObj.dead), some (AObj.dead), none]⟩)]))) [{val := some (jA [jI 0, jI 0])}, {}] Try.func20 (by kernel_rfl) Try.call20
            (oA o1 <| oA o2 <| oA o3 <| oA (oR [jI n, jP 0 0, jP 1 0, jI 0, jP 2 0, jP 3 0, jI ((n.natAbs : Nat) : Int), jI 0]) <| oA (oQ [jC [jI am, jI ae] 23, jC [jI 0, jI 0] 23, jC [jI 1, jI 0] 23, jC [jI 1, jI 0] 23]) <| oS (show Tri Try.prog (.loop (loopN (bodyOf Try.f20) 0)) (⟨[none, sI n, sP 0 0, none, sP 1 0, sI 0, sP 2 0, sP 3 0, none, none, none, none, none, none, none, none, none, none, none, none, none, none, none, none, sI ((n.natAbs : Nat) : Int), sI 0, none, none, none, none, none, none, none, none, none, none, none, none, none, none, none, none, none, none, none, none, none], [some (jC [jI am, jI ae] 23), some (jC [jI 0, jI 0] 23), some (jC [jI 1, jI 0] 23), some (jC [jI 1, jI 0] 23), none]⟩) .ret (⟨[none, none, none, none, sP 1 0, sI ((powL am ae n.natAbs).2.2), none, none, none, none, none, none, none, none, none, none, none, none, none, none, none, none, none, none, none, none, none, none, none, none, none, none, none, none, none, none, none, none, none, none, none, none, none, none, none, none, none], [some (AObj.dead), some (jC [jI 0, jI 0] 23), some (AObj.dead), some (AObj.dead), none]⟩) from pow_l2 am ae n n.natAbs (by omega) c4))
            (oA (oLw ([jI 0, jI 0]) (rfl)) <| oA (oS (show jT [jA [jI 0, jI 0], jI ((powL am ae n.natAbs).2.2)] = jT [jA [jI ((powR am ae n).1), jI ((powR am ae n).2.1)], jI ((powR am ae n).2.2)] from by simp [powR, bad3, *])) <| oV (D := (fun n => decide (0 ≤ n))) (jT [jA [jI ((powR am ae n).1), jI ((powR am ae n).2.1)], jI ((powR am ae n).2.2)]) rfl) (by kernel_rfl)
  · exact meets_run (fn := Try.f20) 5 (q1 ++ [rG [hhV 0 (jA [jI am, jI ae]), hhMB 1 (right_meets am ae) false, hhB 2 true], rG [(1, {obj := some [jC [jI 0, jI 0] 23]})]]) [{val := some (jA [jI 0, jI 0])}, {}] Try.func20 (by kernel_rfl) Try.call20
      (oA o1 <| oA (oS (boolF c1)) <| oA (oS (show AV.bool (!false) = jB true from rfl)) <| oSw ([jI 0, jI 0]) ([jI 0, jI 0]) 23 (rfl) (rfl))
      (oA (oLw ([jI 0, jI 0]) (rfl)) <| oA (oS (show jT [jA [jI 0, jI 0], jI 10] = jT [jA [jI ((powR am ae n).1), jI ((powR am ae n).2.1)], jI ((powR am ae n).2.2)] from by simp [powR, bad3, *])) <| oV (D := (fun n => decide (0 ≤ n))) (jT [jA [jI ((powR am ae n).1), jI ((powR am ae n).2.1)], jI ((powR am ae n).2.2)]) rfl) (by kernel_rfl)

end Go.Proofs.Ytmgiefeggkikcaa
