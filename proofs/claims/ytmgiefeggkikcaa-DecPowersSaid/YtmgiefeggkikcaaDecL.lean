import Derived.Test.YtmgiefeggkikcaaDecK
set_option linter.unusedVariables false
set_option linter.unusedSimpArgs false
set_option maxRecDepth 20000
namespace Go.Proofs.Ytmgiefeggkikcaa
open Go Sx Dc

/-- The nearest decimal of a number (times ten to 40), and the error. -/
def nearV (v : Int) : Int × Int × Int := ((nearM (decide (v < 0)) (digs 88 ((v.natAbs : Nat) : Int))).1, (nearM (decide (v < 0)) (digs 88 ((v.natAbs : Nat) : Int))).2, nearE (digs 88 ((v.natAbs : Nat) : Int)))
def bad3 : Int × Int × Int := (0, 0, 10)
def addR (am ae bm be : Int) : Int × Int × Int := if rightB am ae = true ∧ rightB bm be = true then nearV (sV am ae + sV bm be) else bad3
def subR (am ae bm be : Int) : Int × Int × Int := if rightB am ae = true ∧ rightB bm be = true then nearV (sV am ae - sV bm be) else bad3
/-- A product, and a quotient that is cut off, times ten to 40. -/
def mV (am ae bm be : Int) : Int := am * bm * 10 ^ (ae + be + 40).toNat
def qV (am ae bm be : Int) : Int := if unlikeB am bm = true then -quoV am ae bm be else quoV am ae bm be
def mulR (am ae bm be : Int) : Int × Int × Int := if rightB am ae = true ∧ rightB bm be = true then nearV (mV am ae bm be) else bad3
def divR (am ae bm be : Int) : Int × Int × Int := if rightB am ae = true ∧ rightB bm be = true then (if bm = 0 then (0, 0, 11) else nearV (qV am ae bm be)) else bad3
theorem nearM_zero : nearM true (digs 88 0) = nearM false (digs 88 0) := by kernel_rfl
theorem near_sign {mx : Bool} {v : Int} (h : v ≠ 0 → mx = decide (v < 0)) : nearM mx (digs 88 ((v.natAbs : Nat) : Int)) = nearM (decide (v < 0)) (digs 88 ((v.natAbs : Nat) : Int)) := by
  by_cases h0 : v = 0
  · subst h0
    cases mx
    · rfl
    · exact nearM_zero
  · rw [h h0]
theorem tell_near {mx ok : Bool} {v : Int} {D : Int} (hD : ok = true → D = ((v.natAbs : Nat) : Int)) (h : ok = true → v ≠ 0 → mx = decide (v < 0)) : tellR ok mx (digs 88 D) = if ok = true then nearV v else bad3 := by
  unfold tellR nearV bad3
  by_cases hk : ok = true
  · rw [if_pos hk, if_pos hk, hD hk, near_sign (h hk)]
  · rw [if_neg hk, if_neg hk]
theorem sumB_sign {am ae bm be : Int} (ham : -1000000000000000 < am ∧ am < 1000000000000000) (hae : -18 ≤ ae ∧ ae ≤ 18) (hbm : -1000000000000000 < bm ∧ bm < 1000000000000000) (hbe : -18 ≤ be ∧ be ≤ 18) (h : sV am ae + sV bm be ≠ 0) : sumB am ae bm be = decide (sV am ae + sV bm be < 0) := by
  have hx := aV_bounds ham hae
  have hy := aV_bounds hbm hbe
  have pa : am < 0 → 0 < aV am ae := fun k => by
    unfold aV; exact Int.mul_pos (by omega) (pow_pos' _)
  have pb : bm < 0 → 0 < aV bm be := fun k => by
    unfold aV; exact Int.mul_pos (by omega) (pow_pos' _)
  unfold sumB
  by_cases c1 : am < 0 <;> by_cases c2 : bm < 0
  · have := pa c1; have := pb c2
    rw [sV_neg c1, sV_neg c2] at h ⊢
    split <;> simp only [c1, c2, decide_true] <;> exact (decide_eq_true (by omega)).symm
  · have := pa c1
    rw [sV_neg c1, sV_pos c2] at h ⊢
    split
    · simp only [c2, decide_false]; exact (decide_eq_false (by omega)).symm
    · simp only [c1, decide_true]; exact (decide_eq_true (by omega)).symm
  · have := pb c2
    rw [sV_pos c1, sV_neg c2] at h ⊢
    split
    · simp only [c2, decide_true]; exact (decide_eq_true (by omega)).symm
    · simp only [c1, decide_false]; exact (decide_eq_false (by omega)).symm
  · rw [sV_pos c1, sV_pos c2] at h ⊢
    split <;> simp only [c1, c2, decide_false] <;> exact (decide_eq_false (by omega)).symm
theorem and_eq {a b : Bool} {α : Type} {x y : α} : (if (a && b) = true then x else y) = if a = true ∧ b = true then x else y := by cases a <;> cases b <;> rfl
theorem addR_eq (am ae bm be : Int) : tellR (rightB am ae && rightB bm be) (sumB am ae bm be) (digs 88 (sumV am ae bm be)) = addR am ae bm be := by
  rw [tell_near (v := sV am ae + sV bm be) (fun _ => by rw [sumV]) (fun hk h => ?_), addR, and_eq]
  simp only [Bool.and_eq_true] at hk
  obtain ⟨⟨h1, h2⟩, h3, h4⟩ := And.intro (right_bounds hk.1) (right_bounds hk.2)
  exact sumB_sign h1 (by omega) h3 (by omega) h
theorem sV_neg' (m e : Int) : sV (-m) e = -sV m e := by unfold sV; rw [Int.neg_mul]
theorem subR_eq (am ae bm be : Int) : tellR (rightB am ae && rightB bm be) (sumB am ae (-bm) be) (digs 88 (sumV am ae (-bm) be)) = subR am ae bm be := by
  rw [tell_near (v := sV am ae + sV (-bm) be) (fun _ => by rw [sumV]) (fun hk h => ?_), subR, and_eq, sV_neg', Int.sub_eq_add_neg]
  simp only [Bool.and_eq_true] at hk
  obtain ⟨⟨h1, h2⟩, h3, h4⟩ := And.intro (right_bounds hk.1) (right_bounds hk.2)
  exact sumB_sign h1 (by omega) (by omega) (by omega) h
theorem mul_sign {am bm p : Int} (hp : 0 < p) (h : am * bm * p ≠ 0) : unlikeB am bm = decide (am * bm * p < 0) := by
  have hb : ∀ x : Int, x * p < 0 ↔ x < 0 := fun x => ⟨fun h => by
    rcases Int.lt_or_le x 0 with k | k
    · exact k
    · have := Int.mul_nonneg k (Int.le_of_lt hp); omega, fun h => Int.mul_neg_of_neg_of_pos h hp⟩
  rw [show decide (am * bm * p < 0) = decide (am * bm < 0) from decide_eq_decide.2 (hb _)]
  have h1 : am ≠ 0 := by rintro rfl; simp at h
  have h2 : bm ≠ 0 := by rintro rfl; simp at h
  unfold unlikeB
  by_cases c1 : am < 0 <;> by_cases c2 : bm < 0 <;> simp only [c1, c2, decide_true, decide_false]
  · have := Int.mul_pos_of_neg_of_neg c1 c2
    rw [show decide (am * bm < 0) = false from decide_eq_false (by omega)]; rfl
  · have := Int.mul_neg_of_neg_of_pos c1 (by omega : 0 < bm)
    rw [show decide (am * bm < 0) = true from decide_eq_true (by omega)]; rfl
  · have := Int.mul_neg_of_pos_of_neg (by omega : 0 < am) c2
    rw [show decide (am * bm < 0) = true from decide_eq_true (by omega)]; rfl
  · have := Int.mul_pos (by omega : 0 < am) (by omega : 0 < bm)
    rw [show decide (am * bm < 0) = false from decide_eq_false (by omega)]; rfl
theorem mulR_eq (am ae bm be : Int) : tellR (rightB am ae && rightB bm be) (unlikeB am bm) (digs 88 (mulV am ae bm be)) = mulR am ae bm be := by
  rw [tell_near (v := mV am ae bm be) (fun _ => ?_) (fun hk h => mul_sign (pow_pos' _) h), mulR, and_eq]
  unfold mulV mV aV
  rw [Int.natAbs_mul, Int.natAbs_mul]
  have : (((10 : Int) ^ (ae + be + 40).toNat).natAbs : Int) = 10 ^ (ae + be + 40).toNat := by
    have := pow_pos' (ae + be + 40).toNat; omega
  simp only [Int.natCast_mul, this]
  rw [Int.mul_assoc, Int.mul_assoc, Int.mul_comm (10 ^ _)]
theorem quoV_nonneg (am ae bm be : Int) : 0 ≤ quoV am ae bm be := Int.ediv_nonneg (Int.mul_nonneg (by omega) (Int.le_of_lt (pow_pos' _))) (by omega)
theorem divR_eq {am ae bm be : Int} (hb : bm ≠ 0) : tellR (rightB am ae && rightB bm be) (unlikeB am bm) (digs 88 (quoV am ae bm be)) = divR am ae bm be := by
  have hq := quoV_nonneg am ae bm be
  rw [tell_near (v := qV am ae bm be) (fun _ => ?_) (fun hk h => ?_), divR, and_eq, if_neg hb]
  · unfold qV; split <;> omega
  · unfold qV at h ⊢
    split
    · rename_i hu; rw [hu]; rw [if_pos hu] at h; exact (decide_eq_true (by omega)).symm
    · rename_i hu; rw [if_neg hu] at h; rw [decide_eq_false (by omega)]; simpa using hu
attribute [irreducible] nearV mV qV

theorem add_meets (am ae bm be : Int) : Meets Try.prog 22 [jA [jI am, jI ae], jA [jI bm, jI be]] [] (jT [jA [jI ((addR am ae bm be).1), jI ((addR am ae bm be).2.1)], jI ((addR am ae bm be).2.2)]) [] := by
  exact meets_run (fn := Try.f22) 4 [rG [hhN 0 0, hhN 1 1, hhN 2 2], rG [hhV 0 (jA [jI am, jI ae]), hhV 1 (jA [jI bm, jI be]), hhV 2 (jA [jI am, jI ae, jI bm, jI be]), hhN 3 3, (4, {obj := some [jC [jI am, jI ae, jI bm, jI be] 65]})], rG [hhV 0 (jA [jI am, jI ae, jI bm, jI be]), hhV 1 (jA [jI am, jI ae, jI bm, jI be]), hhK 3 ([jA [jI am, jI ae, jI bm, jI be], AV.func 54 [jA [jI am, jI ae, jI bm, jI be]] []]) (jT [jA [jI ((tellR (rightB am ae && rightB bm be) (sumB am ae bm be) (digs 88 (sumV am ae bm be))).1), jI ((tellR (rightB am ae && rightB bm be) (sumB am ae bm be) (digs 88 (sumV am ae bm be))).2.1)], jI ((tellR (rightB am ae && rightB bm be) (sumB am ae bm be) (digs 88 (sumV am ae bm be))).2.2)]), (6, {obj := some [jC [jI ((tellR (rightB am ae && rightB bm be) (sumB am ae bm be) (digs 88 (sumV am ae bm be))).1), jI ((tellR (rightB am ae && rightB bm be) (sumB am ae bm be) (digs 88 (sumV am ae bm be))).2.1)] 23]})]] [{val := some (jA [jI ((tellR (rightB am ae && rightB bm be) (sumB am ae bm be) (digs 88 (sumV am ae bm be))).1), jI ((tellR (rightB am ae && rightB bm be) (sumB am ae bm be) (digs 88 (sumV am ae bm be))).2.1)])}, {}] Try.func22 (by kernel_rfl) Try.call22
    (oA (oLw ([jI am, jI ae]) (rfl)) <| oA (oLw ([jI bm, jI be]) (rfl)) <| oA (oS (show ([jI am, jI ae] : List AV).length = 2 from rfl)) <| oA (oS (show 0 + 2 ≤ ([jI 0, jI 0, jI 0, jI 0] : List AV).length from Nat.le_of_ble_eq_true (by kernel_rfl))) <| oA (oS (show ([jI bm, jI be] : List AV).length = 2 from rfl)) <| oA (oS (show 2 + 2 ≤ (List.take 0 [jI 0, jI 0, jI 0, jI 0] ++ [jI am, jI ae] ++ List.drop 2 [jI 0, jI 0, jI 0, jI 0] : List AV).length from Nat.le_of_ble_eq_true (by kernel_rfl))) <| oA (oS (show AV.agg (List.take 2 (List.take 0 [jI 0, jI 0, jI 0, jI 0] ++ [jI am, jI ae] ++ List.drop 2 [jI 0, jI 0, jI 0, jI 0]) ++ [jI bm, jI be] ++ List.drop 4 (List.take 0 [jI 0, jI 0, jI 0, jI 0] ++ [jI am, jI ae] ++ List.drop 2 [jI 0, jI 0, jI 0, jI 0])) = jA [jI am, jI ae, jI bm, jI be] from by kernel_rfl)) <| oA (oSw ([jI am, jI ae, jI bm, jI be]) ([jI 0, jI 0, jI 0, jI 0]) 65 (rfl) (rfl)) <| oA (oLw ([jI am, jI ae, jI bm, jI be]) (rfl)) <| oA (oLw ([jI am, jI ae, jI bm, jI be]) (rfl)) <| oA (oC (show Meets Try.prog 53 [jA [jI am, jI ae, jI bm, jI be], AV.func 54 [jA [jI am, jI ae, jI bm, jI be]] []] [] (jT [jA [jI ((tellR (rightB am ae && rightB bm be) (sumB am ae bm be) (digs 88 (sumV am ae bm be))).1), jI ((tellR (rightB am ae && rightB bm be) (sumB am ae bm be) (digs 88 (sumV am ae bm be))).2.1)], jI ((tellR (rightB am ae && rightB bm be) (sumB am ae bm be) (digs 88 (sumV am ae bm be))).2.2)]) [] from tell_meets am ae bm be 54 _ _ (digs_length _ _) (digs_dig _ _) (fun h1 h2 => sum_meets am ae bm be (right_bounds h1).1 (by have := (right_bounds h1).2; omega) (right_bounds h2).1 (by have := (right_bounds h2).2; omega))) rfl) <| oSw ([jI ((tellR (rightB am ae && rightB bm be) (sumB am ae bm be) (digs 88 (sumV am ae bm be))).1), jI ((tellR (rightB am ae && rightB bm be) (sumB am ae bm be) (digs 88 (sumV am ae bm be))).2.1)]) ([jI 0, jI 0]) 23 (rfl) (rfl))
    (oA (oLw ([jI ((tellR (rightB am ae && rightB bm be) (sumB am ae bm be) (digs 88 (sumV am ae bm be))).1), jI ((tellR (rightB am ae && rightB bm be) (sumB am ae bm be) (digs 88 (sumV am ae bm be))).2.1)]) (rfl)) <| oA (oS (show jT [jA [jI ((tellR (rightB am ae && rightB bm be) (sumB am ae bm be) (digs 88 (sumV am ae bm be))).1), jI ((tellR (rightB am ae && rightB bm be) (sumB am ae bm be) (digs 88 (sumV am ae bm be))).2.1)], jI ((tellR (rightB am ae && rightB bm be) (sumB am ae bm be) (digs 88 (sumV am ae bm be))).2.2)] = jT [jA [jI ((addR am ae bm be).1), jI ((addR am ae bm be).2.1)], jI ((addR am ae bm be).2.2)] from by rw [addR_eq])) <| oV (D := (fun n => decide (0 ≤ n))) (jT [jA [jI ((addR am ae bm be).1), jI ((addR am ae bm be).2.1)], jI ((addR am ae bm be).2.2)]) rfl) (by kernel_rfl)

theorem sub_meets (am ae bm be : Int) : Meets Try.prog 24 [jA [jI am, jI ae], jA [jI bm, jI be]] [] (jT [jA [jI ((subR am ae bm be).1), jI ((subR am ae bm be).2.1)], jI ((subR am ae bm be).2.2)]) [] := by
  exact meets_run (fn := Try.f24) 4 [rG [hhN 0 0, hhN 1 1, hhN 2 2], rG [hhV 0 (jA [jI am, jI ae]), hhV 1 (jA [jI bm, jI be]), hhV 2 (jA [jI am, jI ae, jI bm, jI be]), hhN 3 3, (4, {obj := some [jC [jI am, jI ae, jI bm, jI be] 65]})], rG [hhV 0 (jA [jI am, jI ae, jI bm, jI be]), hhV 1 (jA [jI am, jI ae, jI bm, jI be]), hhK 3 ([jA [jI am, jI ae, jI bm, jI be], AV.func 56 [jA [jI am, jI ae, jI bm, jI be]] []]) (jT [jA [jI ((tellR (rightB am ae && rightB bm be) (sumB am ae (-bm) be) (digs 88 (sumV am ae (-bm) be))).1), jI ((tellR (rightB am ae && rightB bm be) (sumB am ae (-bm) be) (digs 88 (sumV am ae (-bm) be))).2.1)], jI ((tellR (rightB am ae && rightB bm be) (sumB am ae (-bm) be) (digs 88 (sumV am ae (-bm) be))).2.2)]), (6, {obj := some [jC [jI ((tellR (rightB am ae && rightB bm be) (sumB am ae (-bm) be) (digs 88 (sumV am ae (-bm) be))).1), jI ((tellR (rightB am ae && rightB bm be) (sumB am ae (-bm) be) (digs 88 (sumV am ae (-bm) be))).2.1)] 23]})]] [{val := some (jA [jI ((tellR (rightB am ae && rightB bm be) (sumB am ae (-bm) be) (digs 88 (sumV am ae (-bm) be))).1), jI ((tellR (rightB am ae && rightB bm be) (sumB am ae (-bm) be) (digs 88 (sumV am ae (-bm) be))).2.1)])}, {}] Try.func24 (by kernel_rfl) Try.call24
    (oA (oLw ([jI am, jI ae]) (rfl)) <| oA (oLw ([jI bm, jI be]) (rfl)) <| oA (oS (show ([jI am, jI ae] : List AV).length = 2 from rfl)) <| oA (oS (show 0 + 2 ≤ ([jI 0, jI 0, jI 0, jI 0] : List AV).length from Nat.le_of_ble_eq_true (by kernel_rfl))) <| oA (oS (show ([jI bm, jI be] : List AV).length = 2 from rfl)) <| oA (oS (show 2 + 2 ≤ (List.take 0 [jI 0, jI 0, jI 0, jI 0] ++ [jI am, jI ae] ++ List.drop 2 [jI 0, jI 0, jI 0, jI 0] : List AV).length from Nat.le_of_ble_eq_true (by kernel_rfl))) <| oA (oS (show AV.agg (List.take 2 (List.take 0 [jI 0, jI 0, jI 0, jI 0] ++ [jI am, jI ae] ++ List.drop 2 [jI 0, jI 0, jI 0, jI 0]) ++ [jI bm, jI be] ++ List.drop 4 (List.take 0 [jI 0, jI 0, jI 0, jI 0] ++ [jI am, jI ae] ++ List.drop 2 [jI 0, jI 0, jI 0, jI 0])) = jA [jI am, jI ae, jI bm, jI be] from by kernel_rfl)) <| oA (oSw ([jI am, jI ae, jI bm, jI be]) ([jI 0, jI 0, jI 0, jI 0]) 65 (rfl) (rfl)) <| oA (oLw ([jI am, jI ae, jI bm, jI be]) (rfl)) <| oA (oLw ([jI am, jI ae, jI bm, jI be]) (rfl)) <| oA (oC (show Meets Try.prog 53 [jA [jI am, jI ae, jI bm, jI be], AV.func 56 [jA [jI am, jI ae, jI bm, jI be]] []] [] (jT [jA [jI ((tellR (rightB am ae && rightB bm be) (sumB am ae (-bm) be) (digs 88 (sumV am ae (-bm) be))).1), jI ((tellR (rightB am ae && rightB bm be) (sumB am ae (-bm) be) (digs 88 (sumV am ae (-bm) be))).2.1)], jI ((tellR (rightB am ae && rightB bm be) (sumB am ae (-bm) be) (digs 88 (sumV am ae (-bm) be))).2.2)]) [] from tell_meets am ae bm be 56 _ _ (digs_length _ _) (digs_dig _ _) (fun h1 h2 => difference_meets am ae bm be (right_bounds h1).1 (right_bounds h1).2 (right_bounds h2).1 (right_bounds h2).2)) rfl) <| oSw ([jI ((tellR (rightB am ae && rightB bm be) (sumB am ae (-bm) be) (digs 88 (sumV am ae (-bm) be))).1), jI ((tellR (rightB am ae && rightB bm be) (sumB am ae (-bm) be) (digs 88 (sumV am ae (-bm) be))).2.1)]) ([jI 0, jI 0]) 23 (rfl) (rfl))
    (oA (oLw ([jI ((tellR (rightB am ae && rightB bm be) (sumB am ae (-bm) be) (digs 88 (sumV am ae (-bm) be))).1), jI ((tellR (rightB am ae && rightB bm be) (sumB am ae (-bm) be) (digs 88 (sumV am ae (-bm) be))).2.1)]) (rfl)) <| oA (oS (show jT [jA [jI ((tellR (rightB am ae && rightB bm be) (sumB am ae (-bm) be) (digs 88 (sumV am ae (-bm) be))).1), jI ((tellR (rightB am ae && rightB bm be) (sumB am ae (-bm) be) (digs 88 (sumV am ae (-bm) be))).2.1)], jI ((tellR (rightB am ae && rightB bm be) (sumB am ae (-bm) be) (digs 88 (sumV am ae (-bm) be))).2.2)] = jT [jA [jI ((subR am ae bm be).1), jI ((subR am ae bm be).2.1)], jI ((subR am ae bm be).2.2)] from by rw [subR_eq])) <| oV (D := (fun n => decide (0 ≤ n))) (jT [jA [jI ((subR am ae bm be).1), jI ((subR am ae bm be).2.1)], jI ((subR am ae bm be).2.2)]) rfl) (by kernel_rfl)

theorem mul_meets (am ae bm be : Int) : Meets Try.prog 23 [jA [jI am, jI ae], jA [jI bm, jI be]] [] (jT [jA [jI ((mulR am ae bm be).1), jI ((mulR am ae bm be).2.1)], jI ((mulR am ae bm be).2.2)]) [] := by
  exact meets_run (fn := Try.f23) 4 [rG [hhN 0 0, hhN 1 1, hhN 2 2], rG [hhV 0 (jA [jI am, jI ae]), hhV 1 (jA [jI bm, jI be]), hhV 2 (jA [jI am, jI ae, jI bm, jI be]), hhN 3 3, (4, {obj := some [jC [jI am, jI ae, jI bm, jI be] 65]})], rG [hhV 0 (jA [jI am, jI ae, jI bm, jI be]), hhV 1 (jA [jI am, jI ae, jI bm, jI be]), hhK 3 ([jA [jI am, jI ae, jI bm, jI be], AV.func 55 [jA [jI am, jI ae, jI bm, jI be]] []]) (jT [jA [jI ((tellR (rightB am ae && rightB bm be) (unlikeB am bm) (digs 88 (mulV am ae bm be))).1), jI ((tellR (rightB am ae && rightB bm be) (unlikeB am bm) (digs 88 (mulV am ae bm be))).2.1)], jI ((tellR (rightB am ae && rightB bm be) (unlikeB am bm) (digs 88 (mulV am ae bm be))).2.2)]), (6, {obj := some [jC [jI ((tellR (rightB am ae && rightB bm be) (unlikeB am bm) (digs 88 (mulV am ae bm be))).1), jI ((tellR (rightB am ae && rightB bm be) (unlikeB am bm) (digs 88 (mulV am ae bm be))).2.1)] 23]})]] [{val := some (jA [jI ((tellR (rightB am ae && rightB bm be) (unlikeB am bm) (digs 88 (mulV am ae bm be))).1), jI ((tellR (rightB am ae && rightB bm be) (unlikeB am bm) (digs 88 (mulV am ae bm be))).2.1)])}, {}] Try.func23 (by kernel_rfl) Try.call23
    (oA (oLw ([jI am, jI ae]) (rfl)) <| oA (oLw ([jI bm, jI be]) (rfl)) <| oA (oS (show ([jI am, jI ae] : List AV).length = 2 from rfl)) <| oA (oS (show 0 + 2 ≤ ([jI 0, jI 0, jI 0, jI 0] : List AV).length from Nat.le_of_ble_eq_true (by kernel_rfl))) <| oA (oS (show ([jI bm, jI be] : List AV).length = 2 from rfl)) <| oA (oS (show 2 + 2 ≤ (List.take 0 [jI 0, jI 0, jI 0, jI 0] ++ [jI am, jI ae] ++ List.drop 2 [jI 0, jI 0, jI 0, jI 0] : List AV).length from Nat.le_of_ble_eq_true (by kernel_rfl))) <| oA (oS (show AV.agg (List.take 2 (List.take 0 [jI 0, jI 0, jI 0, jI 0] ++ [jI am, jI ae] ++ List.drop 2 [jI 0, jI 0, jI 0, jI 0]) ++ [jI bm, jI be] ++ List.drop 4 (List.take 0 [jI 0, jI 0, jI 0, jI 0] ++ [jI am, jI ae] ++ List.drop 2 [jI 0, jI 0, jI 0, jI 0])) = jA [jI am, jI ae, jI bm, jI be] from by kernel_rfl)) <| oA (oSw ([jI am, jI ae, jI bm, jI be]) ([jI 0, jI 0, jI 0, jI 0]) 65 (rfl) (rfl)) <| oA (oLw ([jI am, jI ae, jI bm, jI be]) (rfl)) <| oA (oLw ([jI am, jI ae, jI bm, jI be]) (rfl)) <| oA (oC (show Meets Try.prog 53 [jA [jI am, jI ae, jI bm, jI be], AV.func 55 [jA [jI am, jI ae, jI bm, jI be]] []] [] (jT [jA [jI ((tellR (rightB am ae && rightB bm be) (unlikeB am bm) (digs 88 (mulV am ae bm be))).1), jI ((tellR (rightB am ae && rightB bm be) (unlikeB am bm) (digs 88 (mulV am ae bm be))).2.1)], jI ((tellR (rightB am ae && rightB bm be) (unlikeB am bm) (digs 88 (mulV am ae bm be))).2.2)]) [] from tell_meets am ae bm be 55 _ _ (digs_length _ _) (digs_dig _ _) (fun h1 h2 => product_meets am ae bm be (right_bounds h1).1 (right_bounds h1).2 (right_bounds h2).1 (right_bounds h2).2)) rfl) <| oSw ([jI ((tellR (rightB am ae && rightB bm be) (unlikeB am bm) (digs 88 (mulV am ae bm be))).1), jI ((tellR (rightB am ae && rightB bm be) (unlikeB am bm) (digs 88 (mulV am ae bm be))).2.1)]) ([jI 0, jI 0]) 23 (rfl) (rfl))
    (oA (oLw ([jI ((tellR (rightB am ae && rightB bm be) (unlikeB am bm) (digs 88 (mulV am ae bm be))).1), jI ((tellR (rightB am ae && rightB bm be) (unlikeB am bm) (digs 88 (mulV am ae bm be))).2.1)]) (rfl)) <| oA (oS (show jT [jA [jI ((tellR (rightB am ae && rightB bm be) (unlikeB am bm) (digs 88 (mulV am ae bm be))).1), jI ((tellR (rightB am ae && rightB bm be) (unlikeB am bm) (digs 88 (mulV am ae bm be))).2.1)], jI ((tellR (rightB am ae && rightB bm be) (unlikeB am bm) (digs 88 (mulV am ae bm be))).2.2)] = jT [jA [jI ((mulR am ae bm be).1), jI ((mulR am ae bm be).2.1)], jI ((mulR am ae bm be).2.2)] from by rw [mulR_eq])) <| oV (D := (fun n => decide (0 ≤ n))) (jT [jA [jI ((mulR am ae bm be).1), jI ((mulR am ae bm be).2.1)], jI ((mulR am ae bm be).2.2)]) rfl) (by kernel_rfl)

theorem aggT4 {a b c d : Int} (h : [AV.int .i64 a, AV.int .i64 b] = [AV.int .i64 c, AV.int .i64 d]) : AV.bool ((a == c) && ((b == d) && true)) = AV.bool true := by
  simp at h; simp [h]
theorem aggF4 {a b c d : Int} (h : ¬ [AV.int .i64 a, AV.int .i64 b] = [AV.int .i64 c, AV.int .i64 d]) : AV.bool ((a == c) && ((b == d) && true)) = AV.bool false := by
  simp at h; simp; exact h
theorem right_zero {e : Int} (h : rightB 0 e = true) : e = 0 := by
  simp only [rightB, decide_eq_true_eq] at h; exact h.2.2.2.2.1 trivial
theorem div_fin {am ae bm be : Int} (h : bm = 0 → ¬ (rightB am ae = true ∧ rightB bm be = true)) : tellR (rightB am ae && rightB bm be) (unlikeB am bm) (digs 88 (quoV am ae bm be)) = divR am ae bm be := by
  by_cases h0 : bm = 0
  · have hn := h h0
    unfold tellR divR bad3
    rw [and_eq, if_neg hn, if_neg hn]
  · exact divR_eq h0
theorem div_zero {am ae bm be : Int} (c1 : rightB am ae = true) (c2 : [AV.int .i64 bm, AV.int .i64 be] = [AV.int .i64 0, AV.int .i64 0]) : AV.tuple [AV.agg [AV.int .i64 0, AV.int .i64 0], AV.int .i64 11] = AV.tuple [AV.agg [AV.int .i64 (divR am ae bm be).1, AV.int .i64 (divR am ae bm be).2.1], AV.int .i64 (divR am ae bm be).2.2] := by
  simp at c2
  obtain ⟨rfl, rfl⟩ := c2
  have : rightB 0 0 = true := by decide
  simp [divR, c1, this]
theorem div_nz {am ae bm be : Int} (c2 : ¬ [AV.int .i64 bm, AV.int .i64 be] = [AV.int .i64 0, AV.int .i64 0]) (h : bm = 0) : ¬ (rightB am ae = true ∧ rightB bm be = true) := by
  rintro ⟨_, h2⟩
  subst h
  exact c2 (by rw [right_zero h2])

theorem div_meets (am ae bm be : Int) : Meets Try.prog 25 [jA [jI am, jI ae], jA [jI bm, jI be]] [] (jT [jA [jI ((divR am ae bm be).1), jI ((divR am ae bm be).2.1)], jI ((divR am ae bm be).2.2)]) [] := by
  have o1 := oA (oLw ([jI am, jI ae]) (rfl)) <| oC (right_meets am ae) rfl
  let q1 : List Orc := [rG [hhN 0 0, hhN 1 1, hhN 2 2]]
  by_cases c1 : rightB am ae = true
  · have o2 := oA (oS (boolT c1)) <| oLw ([jI bm, jI be]) (rfl)
    by_cases c2 : [jI bm, jI be] = [jI 0, jI 0]
    · exact meets_run (fn := Try.f25) 4 (q1 ++ [rG [hhV 0 (jA [jI am, jI ae]), hhMB 1 (right_meets am ae) true, hhV 3 (jA [jI bm, jI be]), hhB 5 true], rG [(1, {obj := some [jC [jI 0, jI 0] 23]})]]) [{val := some (jA [jI 0, jI 0])}, {}] Try.func25 (by kernel_rfl) Try.call25
        (oA o1 <| oA o2 <| oA (oS (aggT4 c2)) <| oSw ([jI 0, jI 0]) ([jI 0, jI 0]) 23 (rfl) (rfl))
        (oA (oLw ([jI 0, jI 0]) (rfl)) <| oA (oS (show jT [jA [jI 0, jI 0], jI 11] = jT [jA [jI ((divR am ae bm be).1), jI ((divR am ae bm be).2.1)], jI ((divR am ae bm be).2.2)] from div_zero c1 c2)) <| oV (D := (fun n => decide (0 ≤ n))) (jT [jA [jI ((divR am ae bm be).1), jI ((divR am ae bm be).2.1)], jI ((divR am ae bm be).2.2)]) rfl) (by kernel_rfl)
    · exact meets_run (fn := Try.f25) 4 (q1 ++ [rG [hhV 0 (jA [jI am, jI ae]), hhMB 1 (right_meets am ae) true, hhV 3 (jA [jI bm, jI be]), hhB 5 false], rG [hhV 0 (jA [jI am, jI ae]), hhV 1 (jA [jI bm, jI be]), hhV 2 (jA [jI am, jI ae, jI bm, jI be]), hhN 3 3, (4, {obj := some [jC [jI am, jI ae, jI bm, jI be] 65]})], rG [hhV 0 (jA [jI am, jI ae, jI bm, jI be]), hhV 1 (jA [jI am, jI ae, jI bm, jI be]), hhK 3 ([jA [jI am, jI ae, jI bm, jI be], AV.func 57 [jA [jI am, jI ae, jI bm, jI be]] []]) (jT [jA [jI ((tellR (rightB am ae && rightB bm be) (unlikeB am bm) (digs 88 (quoV am ae bm be))).1), jI ((tellR (rightB am ae && rightB bm be) (unlikeB am bm) (digs 88 (quoV am ae bm be))).2.1)], jI ((tellR (rightB am ae && rightB bm be) (unlikeB am bm) (digs 88 (quoV am ae bm be))).2.2)]), (6, {obj := some [jC [jI ((tellR (rightB am ae && rightB bm be) (unlikeB am bm) (digs 88 (quoV am ae bm be))).1), jI ((tellR (rightB am ae && rightB bm be) (unlikeB am bm) (digs 88 (quoV am ae bm be))).2.1)] 23]})]]) [{val := some (jA [jI ((tellR (rightB am ae && rightB bm be) (unlikeB am bm) (digs 88 (quoV am ae bm be))).1), jI ((tellR (rightB am ae && rightB bm be) (unlikeB am bm) (digs 88 (quoV am ae bm be))).2.1)])}, {}] Try.func25 (by kernel_rfl) Try.call25
        (oA o1 <| oA o2 <| oA (oS (aggF4 c2)) <| oA (oLw ([jI am, jI ae]) (rfl)) <| oA (oLw ([jI bm, jI be]) (rfl)) <| oA (oS (show ([jI am, jI ae] : List AV).length = 2 from rfl)) <| oA (oS (show 0 + 2 ≤ ([jI 0, jI 0, jI 0, jI 0] : List AV).length from Nat.le_of_ble_eq_true (by kernel_rfl))) <| oA (oS (show ([jI bm, jI be] : List AV).length = 2 from rfl)) <| oA (oS (show 2 + 2 ≤ (List.take 0 [jI 0, jI 0, jI 0, jI 0] ++ [jI am, jI ae] ++ List.drop 2 [jI 0, jI 0, jI 0, jI 0] : List AV).length from Nat.le_of_ble_eq_true (by kernel_rfl))) <| oA (oS (show AV.agg (List.take 2 (List.take 0 [jI 0, jI 0, jI 0, jI 0] ++ [jI am, jI ae] ++ List.drop 2 [jI 0, jI 0, jI 0, jI 0]) ++ [jI bm, jI be] ++ List.drop 4 (List.take 0 [jI 0, jI 0, jI 0, jI 0] ++ [jI am, jI ae] ++ List.drop 2 [jI 0, jI 0, jI 0, jI 0])) = jA [jI am, jI ae, jI bm, jI be] from by kernel_rfl)) <| oA (oSw ([jI am, jI ae, jI bm, jI be]) ([jI 0, jI 0, jI 0, jI 0]) 65 (rfl) (rfl)) <| oA (oLw ([jI am, jI ae, jI bm, jI be]) (rfl)) <| oA (oLw ([jI am, jI ae, jI bm, jI be]) (rfl)) <| oA (oC (show Meets Try.prog 53 [jA [jI am, jI ae, jI bm, jI be], AV.func 57 [jA [jI am, jI ae, jI bm, jI be]] []] [] (jT [jA [jI ((tellR (rightB am ae && rightB bm be) (unlikeB am bm) (digs 88 (quoV am ae bm be))).1), jI ((tellR (rightB am ae && rightB bm be) (unlikeB am bm) (digs 88 (quoV am ae bm be))).2.1)], jI ((tellR (rightB am ae && rightB bm be) (unlikeB am bm) (digs 88 (quoV am ae bm be))).2.2)]) [] from tell_meets am ae bm be 57 _ _ (digs_length _ _) (digs_dig _ _) (fun h1 h2 => quotient_meets am ae bm be (right_bounds h1).1 (right_bounds h1).2 (right_bounds h2).1 (right_bounds h2).2 (fun h0 => absurd (And.intro h1 h2) (by first | exact div_nz c2 h0 | exact fun h => c1 h.1)))) rfl) <| oSw ([jI ((tellR (rightB am ae && rightB bm be) (unlikeB am bm) (digs 88 (quoV am ae bm be))).1), jI ((tellR (rightB am ae && rightB bm be) (unlikeB am bm) (digs 88 (quoV am ae bm be))).2.1)]) ([jI 0, jI 0]) 23 (rfl) (rfl))
        (oA (oLw ([jI ((tellR (rightB am ae && rightB bm be) (unlikeB am bm) (digs 88 (quoV am ae bm be))).1), jI ((tellR (rightB am ae && rightB bm be) (unlikeB am bm) (digs 88 (quoV am ae bm be))).2.1)]) (rfl)) <| oA (oS (show jT [jA [jI ((tellR (rightB am ae && rightB bm be) (unlikeB am bm) (digs 88 (quoV am ae bm be))).1), jI ((tellR (rightB am ae && rightB bm be) (unlikeB am bm) (digs 88 (quoV am ae bm be))).2.1)], jI ((tellR (rightB am ae && rightB bm be) (unlikeB am bm) (digs 88 (quoV am ae bm be))).2.2)] = jT [jA [jI ((divR am ae bm be).1), jI ((divR am ae bm be).2.1)], jI ((divR am ae bm be).2.2)] from by rw [div_fin (by first | exact div_nz c2 | exact fun _ h => c1 h.1)])) <| oV (D := (fun n => decide (0 ≤ n))) (jT [jA [jI ((divR am ae bm be).1), jI ((divR am ae bm be).2.1)], jI ((divR am ae bm be).2.2)]) rfl) (by kernel_rfl)
  · exact meets_run (fn := Try.f25) 4 (q1 ++ [rG [hhV 0 (jA [jI am, jI ae]), hhMB 1 (right_meets am ae) false], rG [hhV 0 (jA [jI am, jI ae]), hhV 1 (jA [jI bm, jI be]), hhV 2 (jA [jI am, jI ae, jI bm, jI be]), hhN 3 3, (4, {obj := some [jC [jI am, jI ae, jI bm, jI be] 65]})], rG [hhV 0 (jA [jI am, jI ae, jI bm, jI be]), hhV 1 (jA [jI am, jI ae, jI bm, jI be]), hhK 3 ([jA [jI am, jI ae, jI bm, jI be], AV.func 57 [jA [jI am, jI ae, jI bm, jI be]] []]) (jT [jA [jI ((tellR (rightB am ae && rightB bm be) (unlikeB am bm) (digs 88 (quoV am ae bm be))).1), jI ((tellR (rightB am ae && rightB bm be) (unlikeB am bm) (digs 88 (quoV am ae bm be))).2.1)], jI ((tellR (rightB am ae && rightB bm be) (unlikeB am bm) (digs 88 (quoV am ae bm be))).2.2)]), (6, {obj := some [jC [jI ((tellR (rightB am ae && rightB bm be) (unlikeB am bm) (digs 88 (quoV am ae bm be))).1), jI ((tellR (rightB am ae && rightB bm be) (unlikeB am bm) (digs 88 (quoV am ae bm be))).2.1)] 23]})]]) [{val := some (jA [jI ((tellR (rightB am ae && rightB bm be) (unlikeB am bm) (digs 88 (quoV am ae bm be))).1), jI ((tellR (rightB am ae && rightB bm be) (unlikeB am bm) (digs 88 (quoV am ae bm be))).2.1)])}, {}] Try.func25 (by kernel_rfl) Try.call25
      (oA o1 <| oA (oS (boolF c1)) <| oA (oLw ([jI am, jI ae]) (rfl)) <| oA (oLw ([jI bm, jI be]) (rfl)) <| oA (oS (show ([jI am, jI ae] : List AV).length = 2 from rfl)) <| oA (oS (show 0 + 2 ≤ ([jI 0, jI 0, jI 0, jI 0] : List AV).length from Nat.le_of_ble_eq_true (by kernel_rfl))) <| oA (oS (show ([jI bm, jI be] : List AV).length = 2 from rfl)) <| oA (oS (show 2 + 2 ≤ (List.take 0 [jI 0, jI 0, jI 0, jI 0] ++ [jI am, jI ae] ++ List.drop 2 [jI 0, jI 0, jI 0, jI 0] : List AV).length from Nat.le_of_ble_eq_true (by kernel_rfl))) <| oA (oS (show AV.agg (List.take 2 (List.take 0 [jI 0, jI 0, jI 0, jI 0] ++ [jI am, jI ae] ++ List.drop 2 [jI 0, jI 0, jI 0, jI 0]) ++ [jI bm, jI be] ++ List.drop 4 (List.take 0 [jI 0, jI 0, jI 0, jI 0] ++ [jI am, jI ae] ++ List.drop 2 [jI 0, jI 0, jI 0, jI 0])) = jA [jI am, jI ae, jI bm, jI be] from by kernel_rfl)) <| oA (oSw ([jI am, jI ae, jI bm, jI be]) ([jI 0, jI 0, jI 0, jI 0]) 65 (rfl) (rfl)) <| oA (oLw ([jI am, jI ae, jI bm, jI be]) (rfl)) <| oA (oLw ([jI am, jI ae, jI bm, jI be]) (rfl)) <| oA (oC (show Meets Try.prog 53 [jA [jI am, jI ae, jI bm, jI be], AV.func 57 [jA [jI am, jI ae, jI bm, jI be]] []] [] (jT [jA [jI ((tellR (rightB am ae && rightB bm be) (unlikeB am bm) (digs 88 (quoV am ae bm be))).1), jI ((tellR (rightB am ae && rightB bm be) (unlikeB am bm) (digs 88 (quoV am ae bm be))).2.1)], jI ((tellR (rightB am ae && rightB bm be) (unlikeB am bm) (digs 88 (quoV am ae bm be))).2.2)]) [] from tell_meets am ae bm be 57 _ _ (digs_length _ _) (digs_dig _ _) (fun h1 h2 => quotient_meets am ae bm be (right_bounds h1).1 (right_bounds h1).2 (right_bounds h2).1 (right_bounds h2).2 (fun h0 => absurd (And.intro h1 h2) (by first | exact div_nz c2 h0 | exact fun h => c1 h.1)))) rfl) <| oSw ([jI ((tellR (rightB am ae && rightB bm be) (unlikeB am bm) (digs 88 (quoV am ae bm be))).1), jI ((tellR (rightB am ae && rightB bm be) (unlikeB am bm) (digs 88 (quoV am ae bm be))).2.1)]) ([jI 0, jI 0]) 23 (rfl) (rfl))
      (oA (oLw ([jI ((tellR (rightB am ae && rightB bm be) (unlikeB am bm) (digs 88 (quoV am ae bm be))).1), jI ((tellR (rightB am ae && rightB bm be) (unlikeB am bm) (digs 88 (quoV am ae bm be))).2.1)]) (rfl)) <| oA (oS (show jT [jA [jI ((tellR (rightB am ae && rightB bm be) (unlikeB am bm) (digs 88 (quoV am ae bm be))).1), jI ((tellR (rightB am ae && rightB bm be) (unlikeB am bm) (digs 88 (quoV am ae bm be))).2.1)], jI ((tellR (rightB am ae && rightB bm be) (unlikeB am bm) (digs 88 (quoV am ae bm be))).2.2)] = jT [jA [jI ((divR am ae bm be).1), jI ((divR am ae bm be).2.1)], jI ((divR am ae bm be).2.2)] from by rw [div_fin (by first | exact div_nz c2 | exact fun _ h => c1 h.1)])) <| oV (D := (fun n => decide (0 ≤ n))) (jT [jA [jI ((divR am ae bm be).1), jI ((divR am ae bm be).2.1)], jI ((divR am ae bm be).2.2)]) rfl) (by kernel_rfl)

end Go.Proofs.Ytmgiefeggkikcaa
