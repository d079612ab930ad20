import Derived.Test.YtmgiefeggkikcaaDecL
set_option linter.unusedVariables false
set_option linter.unusedSimpArgs false
set_option maxRecDepth 20000
namespace Go.Proofs.Ytmgiefeggkikcaa
open Go Sx Dc

def cmpR (am ae bm be : Int) : Int := if rightB am ae = true ∧ rightB bm be = true then (if sV am ae < sV bm be then -1 else if sV bm be < sV am ae then 1 else 0) else 0
theorem val_sumV {am ae bm be : Int} (ham : -1000000000000000 < am ∧ am < 1000000000000000) (hae : -18 ≤ ae ∧ ae ≤ 18) (hbm : -1000000000000000 < bm ∧ bm < 1000000000000000) (hbe : -18 ≤ be ∧ be ≤ 18) : val (digs 88 (sumV am ae bm be)) = ((sV am ae + sV bm be).natAbs : Int) := by
  have hx := aV_bounds ham hae
  have hy := aV_bounds hbm hbe
  have h1 : sV am ae = aV am ae ∨ sV am ae = -aV am ae := by
    by_cases c : am < 0
    · exact .inr (sV_neg c)
    · exact .inl (sV_pos c)
  have h2 : sV bm be = aV bm be ∨ sV bm be = -aV bm be := by
    by_cases c : bm < 0
    · exact .inr (sV_neg c)
    · exact .inl (sV_pos c)
  have h73 : (10 : Int) ^ 73 + 10 ^ 73 ≤ 10 ^ 88 := by decide
  rw [sumV, val_digs _ _ (by omega)]
  generalize (10 : Int) ^ 73 = p at *
  generalize (10 : Int) ^ 88 = q at *
  omega
theorem cmp_zero {am ae bm be : Int} (c1 : rightB am ae = true) (c2 : rightB bm be = true) (c3 : val (digs 88 (sumV am ae (-bm) be)) = 0) : AV.int .i64 0 = AV.int .i64 (cmpR am ae bm be) := by
  have h1 := right_bounds c1
  have h2 := right_bounds c2
  rw [val_sumV h1.1 (by omega) (by omega) (by omega), sV_neg'] at c3
  rw [cmpR, if_pos ⟨c1, c2⟩, if_neg (by omega), if_neg (by omega)]
theorem cmp_less {am ae bm be : Int} (c1 : rightB am ae = true) (c2 : rightB bm be = true) (c3 : ¬ val (digs 88 (sumV am ae (-bm) be)) = 0) (c4 : sumB am ae (-bm) be = true) : AV.int .i64 (-1) = AV.int .i64 (cmpR am ae bm be) := by
  have h1 := right_bounds c1
  have h2 := right_bounds c2
  rw [val_sumV h1.1 (by omega) (by omega) (by omega)] at c3
  rw [sumB_sign h1.1 (by omega) (by omega) (by omega) (by omega), sV_neg', decide_eq_true_eq] at c4
  rw [cmpR, if_pos ⟨c1, c2⟩, if_pos (by omega)]
theorem cmp_more {am ae bm be : Int} (c1 : rightB am ae = true) (c2 : rightB bm be = true) (c3 : ¬ val (digs 88 (sumV am ae (-bm) be)) = 0) (c4 : ¬ sumB am ae (-bm) be = true) : AV.int .i64 1 = AV.int .i64 (cmpR am ae bm be) := by
  have h1 := right_bounds c1
  have h2 := right_bounds c2
  rw [val_sumV h1.1 (by omega) (by omega) (by omega), sV_neg'] at c3
  rw [sumB_sign h1.1 (by omega) (by omega) (by omega) (by rw [sV_neg']; omega), sV_neg', decide_eq_true_eq] at c4
  rw [cmpR, if_pos ⟨c1, c2⟩, if_neg (by omega), if_pos (by omega)]

theorem cmp_meets (am ae bm be : Int) : Meets Try.prog 27 [jA [jI am, jI ae], jA [jI bm, jI be]] [] (jI (cmpR am ae bm be)) [] := by
  have o1 := oA (oLw ([jI am, jI ae]) (rfl)) <| oC (right_meets am ae) rfl
  let q1 : List Orc := [rG [hhN 0 0, hhN 1 1]]
  by_cases c1 : rightB am ae = true
  · have o2 := oA (oS (boolT c1)) <| oA (oS (show AV.bool (!true) = jB false from rfl)) <| oA (oLw ([jI bm, jI be]) (rfl)) <| oC (right_meets bm be) rfl
    by_cases c2 : rightB bm be = true
    · have o3 := oA (oS (boolT c2)) <| oA (oS (show AV.bool (!true) = jB false from rfl)) <| oA (oLw ([jI am, jI ae]) (rfl)) <| oA (oLw ([jI bm, jI be]) (rfl)) <| oA (oS (show ([jI am, jI ae] : List AV).length = 2 from rfl)) <| oA (oS (show 0 + 2 ≤ ([jI 0, jI 0, jI 0, jI 0] : List AV).length from Nat.le_of_ble_eq_true (by kernel_rfl))) <| oA (oS (show ([jI bm, jI be] : List AV).length = 2 from rfl)) <| oA (oS (show 2 + 2 ≤ (List.take 0 [jI 0, jI 0, jI 0, jI 0] ++ [jI am, jI ae] ++ List.drop 2 [jI 0, jI 0, jI 0, jI 0] : List AV).length from Nat.le_of_ble_eq_true (by kernel_rfl))) <| oA (oS (show AV.agg (List.take 2 (List.take 0 [jI 0, jI 0, jI 0, jI 0] ++ [jI am, jI ae] ++ List.drop 2 [jI 0, jI 0, jI 0, jI 0]) ++ [jI bm, jI be] ++ List.drop 4 (List.take 0 [jI 0, jI 0, jI 0, jI 0] ++ [jI am, jI ae] ++ List.drop 2 [jI 0, jI 0, jI 0, jI 0])) = jA [jI am, jI ae, jI bm, jI be] from by kernel_rfl)) <| oA (oC (difference_meets am ae bm be (right_bounds c1).1 (right_bounds c1).2 (right_bounds c2).1 (right_bounds c2).2) rfl) <| oA (oS (show AV.ren [] (jA ((jB (sumB am ae (-bm) be)) :: (ints .u8 (digs 88 (sumV am ae (-bm) be))))) = jA ((jB (sumB am ae (-bm) be)) :: (ints .u8 (digs 88 (sumV am ae (-bm) be)))) from by simp only [renL, AV.ren, renL_ints, renL_u8s, renL_append])) <| oA (oS (show AObj.cells (zeroCellsA Try.prog 50) 50 = jC ((jB false) :: (ints .u8 (List.replicate 88 0))) 50 from by kernel_rfl)) <| oA (oSw (n := 89) ((jB (sumB am ae (-bm) be)) :: (ints .u8 (digs 88 (sumV am ae (-bm) be)))) ((jB false) :: (ints .u8 (List.replicate 88 0))) 50 (by simp only [List.length_cons, List.length_nil, List.length_append, ints_length, u8s_length, List.length_replicate, List.length_set, List.length_map, digs_length] <;> omega) (by simp only [List.length_cons, List.length_nil, List.length_append, ints_length, u8s_length, List.length_replicate, List.length_set, List.length_map, digs_length] <;> omega)) <| oA (oS (show (0 : Nat) ≤ 88 from by omega)) <| oA (oS (show (88 : Nat) ≤ 88 from by omega)) <| oA (oS (show (88 : Nat) ≤ 88 from by omega)) <| oA (oS (show AV.slice 2 (if 88 = 0 then 1 else 1 + 0 * 1) (88 - 0) (88 - 0) = AV.slice 2 1 88 88 from by kernel_rfl)) <| oA (oS (show [AV.slice 2 1 88 88] = renL [2] [AV.slice 0 1 ((digs 88 (sumV am ae (-bm) be)).length) 88] from by simp only [renL, AV.ren, List.length_drop, digs_length]; rfl)) <| oA (oS (show Meets Try.prog 59 [AV.slice 0 1 ((digs 88 (sumV am ae (-bm) be)).length) 88] [AObj.ro 1 (ints .u8 (digs 88 (sumV am ae (-bm) be)))] (jB (decide (val (digs 88 (sumV am ae (-bm) be)) = 0))) [AObj.ro 1 (ints .u8 (digs 88 (sumV am ae (-bm) be)))] from none_meets (digs 88 (sumV am ae (-bm) be)) 1 88 (by simp only [List.length_drop, digs_length] <;> omega) (by simp only [List.length_drop, digs_length] <;> omega) (digs_dig _ _))) <| oS (show Fits (jC ((jB (sumB am ae (-bm) be)) :: (ints .u8 (digs 88 (sumV am ae (-bm) be)))) 50) (AObj.ren [2] (AObj.ro 1 (ints .u8 (digs 88 (sumV am ae (-bm) be))))) from fits_fig (i := 0) _ rfl (by rw [List.drop_zero, List.take_length]))
      let q2 : List Orc := [rG [hhV 0 (jA [jI am, jI ae]), hhMB 1 (right_meets am ae) true, hhB 2 false, hhV 4 (jA [jI bm, jI be]), hhMB 5 (right_meets bm be) true, hhB 6 false], rG [hhV 0 (jA [jI am, jI ae]), hhV 1 (jA [jI bm, jI be]), hhV 2 (jA [jI am, jI ae, jI bm, jI be]), (3, {call := some ⟨[], [jA [jI am, jI ae, jI bm, jI be]], [], jA ((jB (sumB am ae (-bm) be)) :: (ints .u8 (digs 88 (sumV am ae (-bm) be)))), []⟩, val := some (jA ((jB (sumB am ae (-bm) be)) :: (ints .u8 (digs 88 (sumV am ae (-bm) be)))))}), (4, {nm := [2], obj := some [jC ((jB false) :: (ints .u8 (List.replicate 88 0))) 50]}), (5, {obj := some [jC ((jB (sumB am ae (-bm) be)) :: (ints .u8 (digs 88 (sumV am ae (-bm) be)))) 50]})]]
      by_cases c3 : val (digs 88 (sumV am ae (-bm) be)) = 0
      · exact meets_run (fn := Try.f27) 3 (q1 ++ (q2 ++ [rG [hhV 1 (AV.slice 2 1 88 88), (2, {call := some ⟨[2], [AV.slice 0 1 ((digs 88 (sumV am ae (-bm) be)).length) 88], [AObj.ro 1 (ints .u8 (digs 88 (sumV am ae (-bm) be)))], jB (decide (val (digs 88 (sumV am ae (-bm) be)) = 0)), [AObj.ro 1 (ints .u8 (digs 88 (sumV am ae (-bm) be)))]⟩, val := some (jB true), obj := some [jC ((jB (sumB am ae (-bm) be)) :: (ints .u8 (digs 88 (sumV am ae (-bm) be)))) 50]})], rG []])) [{}] Try.func27 (by kernel_rfl) Try.call27
          (oA o1 <| oA o2 <| oA o3 <| oA (oS (bT c3)) <| oS (show updOf [2] [jC ((jB (sumB am ae (-bm) be)) :: (ints .u8 (digs 88 (sumV am ae (-bm) be)))) 50] [AObj.ro 1 (ints .u8 (digs 88 (sumV am ae (-bm) be)))] [AObj.ro 1 (ints .u8 (digs 88 (sumV am ae (-bm) be)))] ++ List.map (fun x => x.ren [2]) (List.drop 1 [AObj.ro 1 (ints .u8 (digs 88 (sumV am ae (-bm) be)))]) = [jC ((jB (sumB am ae (-bm) be)) :: (ints .u8 (digs 88 (sumV am ae (-bm) be)))) 50] from rfl))
          (oS (show jI 0 = jI (cmpR am ae bm be) from by first | exact cmp_zero c1 c2 c3 | (unfold cmpR; simp [*]))) (by kernel_rfl)
      · have o4 := oA (oS (bF c3)) <| oS (show updOf [2] [jC ((jB (sumB am ae (-bm) be)) :: (ints .u8 (digs 88 (sumV am ae (-bm) be)))) 50] [AObj.ro 1 (ints .u8 (digs 88 (sumV am ae (-bm) be)))] [AObj.ro 1 (ints .u8 (digs 88 (sumV am ae (-bm) be)))] ++ List.map (fun x => x.ren [2]) (List.drop 1 [AObj.ro 1 (ints .u8 (digs 88 (sumV am ae (-bm) be)))]) = [jC ((jB (sumB am ae (-bm) be)) :: (ints .u8 (digs 88 (sumV am ae (-bm) be)))) 50] from rfl)
        let q3 : List Orc := [rG [hhV 1 (AV.slice 2 1 88 88), (2, {call := some ⟨[2], [AV.slice 0 1 ((digs 88 (sumV am ae (-bm) be)).length) 88], [AObj.ro 1 (ints .u8 (digs 88 (sumV am ae (-bm) be)))], jB (decide (val (digs 88 (sumV am ae (-bm) be)) = 0)), [AObj.ro 1 (ints .u8 (digs 88 (sumV am ae (-bm) be)))]⟩, val := some (jB false), obj := some [jC ((jB (sumB am ae (-bm) be)) :: (ints .u8 (digs 88 (sumV am ae (-bm) be)))) 50]})]]
        by_cases c4 : sumB am ae (-bm) be = true
        · exact meets_run (fn := Try.f27) 3 (q1 ++ (q2 ++ (q3 ++ [rG [hhB 1 true], rG []]))) [{}] Try.func27 (by kernel_rfl) Try.call27
            (oA o1 <| oA o2 <| oA o3 <| oA o4 <| oLf ((jB (sumB am ae (-bm) be)) :: (ints .u8 (digs 88 (sumV am ae (-bm) be)))) (0) (jB true) (atT (rfl) c4))
            (oS (show jI (-1) = jI (cmpR am ae bm be) from cmp_less c1 c2 c3 c4)) (by kernel_rfl)
        · exact meets_run (fn := Try.f27) 3 (q1 ++ (q2 ++ (q3 ++ [rG [hhB 1 false], rG []]))) [{}] Try.func27 (by kernel_rfl) Try.call27
            (oA o1 <| oA o2 <| oA o3 <| oA o4 <| oLf ((jB (sumB am ae (-bm) be)) :: (ints .u8 (digs 88 (sumV am ae (-bm) be)))) (0) (jB false) (atF (rfl) c4))
            (oS (show jI 1 = jI (cmpR am ae bm be) from cmp_more c1 c2 c3 c4)) (by kernel_rfl)
    · exact meets_run (fn := Try.f27) 3 (q1 ++ [rG [hhV 0 (jA [jI am, jI ae]), hhMB 1 (right_meets am ae) true, hhB 2 false, hhV 4 (jA [jI bm, jI be]), hhMB 5 (right_meets bm be) false, hhB 6 true], rG []]) [{}] Try.func27 (by kernel_rfl) Try.call27
        (oA o1 <| oA o2 <| oA (oS (boolF c2)) <| oS (show AV.bool (!false) = jB true from rfl))
        (oS (show jI 0 = jI (cmpR am ae bm be) from by first | exact cmp_zero c1 c2 c3 | (unfold cmpR; simp [*]))) (by kernel_rfl)
  · exact meets_run (fn := Try.f27) 3 (q1 ++ [rG [hhV 0 (jA [jI am, jI ae]), hhMB 1 (right_meets am ae) false, hhB 2 true], rG []]) [{}] Try.func27 (by kernel_rfl) Try.call27
      (oA o1 <| oA (oS (boolF c1)) <| oS (show AV.bool (!false) = jB true from rfl))
      (oS (show jI 0 = jI (cmpR am ae bm be) from by first | exact cmp_zero c1 c2 c3 | (unfold cmpR; simp [*]))) (by kernel_rfl)

def floorR (m e : Int) : Int × Int := if rightB m e = true ∧ aV m e / 10 ^ 40 ≤ 999999999999999 then (sV m e / 10 ^ 40, 0) else (0, 10)
theorem val_take_digs {X : Int} {w : Nat} (hw : w ≤ 88) (hX : 0 ≤ X ∧ X < 10 ^ 88) : val ((digs 88 X).take w) = X / 10 ^ (88 - w) := by
  rw [digs_take _ hw, val_digs _ _ (Int.ediv_nonneg hX.1 (Int.le_of_lt (pow_pos' _)))]
  refine Int.ediv_lt_of_lt_mul (pow_pos' _) ?_
  rw [← Int.pow_add, show w + (88 - w) = 88 by omega]; exact hX.2
theorem val_drop_digs {X : Int} {w : Nat} (hw : w ≤ 88) : val ((digs 88 X).drop w) = X % 10 ^ (88 - w) := by
  rw [digs_drop _ hw, val_digs_mod]
theorem aV88 {m e : Int} (h : rightB m e = true) : 0 ≤ aV m e ∧ aV m e < 10 ^ 88 := by
  have h1 := right_bounds h
  have h2 := aV_bounds h1.1 (e := e) (by omega)
  have h73 : (10 : Int) ^ 73 ≤ 10 ^ 88 := by decide
  omega
theorem floor_over {m e : Int} (c1 : rightB m e = true) (c2 : ¬ val ((digs 88 (aV m e)).take 48) ≤ 999999999999999) : AV.tuple [AV.int .i64 0, AV.int .i64 10] = AV.tuple [AV.int .i64 (floorR m e).1, AV.int .i64 (floorR m e).2] := by
  rw [val_take_digs (by decide) (aV88 c1)] at c2
  rw [floorR, if_neg (fun h => c2 h.2)]
theorem floor_plus {m e : Int} (c1 : rightB m e = true) (c2 : val ((digs 88 (aV m e)).take 48) ≤ 999999999999999) (c3 : ¬ decide (m < 0) = true) : AV.tuple [AV.int .i64 (val ((digs 88 (aV m e)).take 48)), AV.int .i64 0] = AV.tuple [AV.int .i64 (floorR m e).1, AV.int .i64 (floorR m e).2] := by
  rw [val_take_digs (by decide) (aV88 c1)] at c2 ⊢
  rw [floorR, if_pos ⟨c1, c2⟩, sV_pos (by simpa using c3)]
theorem floor_even {m e : Int} (c1 : rightB m e = true) (c2 : val ((digs 88 (aV m e)).take 48) ≤ 999999999999999) (c3 : decide (m < 0) = true) (c4 : val ((digs 88 (aV m e)).drop 48) = 0) : AV.tuple [AV.int .i64 (-(val ((digs 88 (aV m e)).take 48))), AV.int .i64 0] = AV.tuple [AV.int .i64 (floorR m e).1, AV.int .i64 (floorR m e).2] := by
  rw [val_take_digs (by decide) (aV88 c1)] at c2 ⊢
  rw [val_drop_digs (by decide)] at c4
  rw [floorR, if_pos ⟨c1, c2⟩, sV_neg (by simpa using c3)]
  simp only [show (88 - 48 : Nat) = 40 by decide] at *
  have : -(aV m e / 10 ^ 40) = -aV m e / 10 ^ 40 := by
    generalize aV m e = x at *
    have hp : (10 : Int) ^ 40 = 10000000000000000000000000000000000000000 := by decide
    rw [hp] at c4 ⊢; omega
  rw [this]
theorem floor_down {m e : Int} (c1 : rightB m e = true) (c2 : val ((digs 88 (aV m e)).take 48) ≤ 999999999999999) (c3 : decide (m < 0) = true) (c4 : ¬ val ((digs 88 (aV m e)).drop 48) = 0) : AV.tuple [AV.int .i64 (-(val ((digs 88 (aV m e)).take 48)) - 1), AV.int .i64 0] = AV.tuple [AV.int .i64 (floorR m e).1, AV.int .i64 (floorR m e).2] := by
  rw [val_take_digs (by decide) (aV88 c1)] at c2 ⊢
  rw [val_drop_digs (by decide)] at c4
  rw [floorR, if_pos ⟨c1, c2⟩, sV_neg (by simpa using c3)]
  simp only [show (88 - 48 : Nat) = 40 by decide] at *
  have : -(aV m e / 10 ^ 40) - 1 = -aV m e / 10 ^ 40 := by
    generalize aV m e = x at *
    have hp : (10 : Int) ^ 40 = 10000000000000000000000000000000000000000 := by decide
    rw [hp] at c4 ⊢; omega
  rw [this]

theorem floor_meets (am ae : Int) : Meets Try.prog 26 [jA [jI am, jI ae]] [] (jT [jI ((floorR am ae).1), jI ((floorR am ae).2)]) [] := by
  have hb0 := (val_bounds _ (Dig.take (digs_dig 88 (aV am ae)) 48)).1
  have o1 := oA (oLw ([jI am, jI ae]) (rfl)) <| oC (right_meets am ae) rfl
  let q1 : List Orc := [rG [hhN 0 0]]
  by_cases c1 : rightB am ae = true
  · have o2 := oA (oS (boolT c1)) <| oA (oS (show AV.bool (!true) = jB false from rfl)) <| oA (oLw ([jI am, jI ae]) (rfl)) <| oA (oC (show Meets Try.prog 33 [jA [jI am, jI ae]] [] (jA ((jB (decide (am < 0))) :: (ints .u8 (digs 88 (aV am ae))))) [] from lay_meets am ae _ (by have := right_bounds c1; omega) (by have := right_bounds c1; omega) (digs_aV _ _)) rfl) <| oA (oS (show AV.ren [] (jA ((jB (decide (am < 0))) :: (ints .u8 (digs 88 (aV am ae))))) = jA ((jB (decide (am < 0))) :: (ints .u8 (digs 88 (aV am ae)))) from by simp only [renL, AV.ren, renL_ints, renL_u8s, renL_append])) <| oA (oS (show AObj.cells (zeroCellsA Try.prog 50) 50 = jC ((jB false) :: (ints .u8 (List.replicate 88 0))) 50 from by kernel_rfl)) <| oSw (n := 89) ((jB (decide (am < 0))) :: (ints .u8 (digs 88 (aV am ae)))) ((jB false) :: (ints .u8 (List.replicate 88 0))) 50 (by simp only [List.length_cons, List.length_nil, List.length_append, ints_length, u8s_length, List.length_replicate, List.length_set, List.length_map, digs_length] <;> omega) (by simp only [List.length_cons, List.length_nil, List.length_append, ints_length, u8s_length, List.length_replicate, List.length_set, List.length_map, digs_length] <;> omega)
    let q2 : List Orc := [rG [hhV 0 (jA [jI am, jI ae]), hhMB 1 (right_meets am ae) true, hhB 2 false], rG [hhV 0 (jA [jI am, jI ae]), (1, {call := some ⟨[], [jA [jI am, jI ae]], [], jA ((jB (decide (am < 0))) :: (ints .u8 (digs 88 (aV am ae)))), []⟩, val := some (jA ((jB (decide (am < 0))) :: (ints .u8 (digs 88 (aV am ae)))))}), (2, {nm := [1], obj := some [jC ((jB false) :: (ints .u8 (List.replicate 88 0))) 50]}), (3, {obj := some [jC ((jB (decide (am < 0))) :: (ints .u8 (digs 88 (aV am ae)))) 50]})]]
    by_cases c2 : val ((digs 88 (aV am ae)).take 48) ≤ 999999999999999
    · have o3 := oA (oS (show [jP 1 0, jI 0] = renL [1] [jP 0 0, jI 0] from rfl)) <| oA (oS (show Meets Try.prog 58 [jP 0 0, jI 0] [jC ((jB (decide (am < 0))) :: (ints .u8 (digs 88 (aV am ae)))) 50] (jT [jI (capN (val ((digs 88 (aV am ae)).take 48))), jB (capB (val ((digs 88 (aV am ae)).take 48)))]) [jC ((jB (decide (am < 0))) :: (ints .u8 (digs 88 (aV am ae)))) 50] from whole_meets (decide (am < 0)) (digs 88 (aV am ae)) 0 48 (digs_length _ _) (digs_dig _ _) (by omega) (by decide))) <| oA (oS (show Fits (jC ((jB (decide (am < 0))) :: (ints .u8 (digs 88 (aV am ae)))) 50) (AObj.ren [1] (jC ((jB (decide (am < 0))) :: (ints .u8 (digs 88 (aV am ae)))) 50)) from Fits.of_eq (by simp only [AObj.ren, renL, AV.ren, renL_ints, renL_u8s, renL_append]))) <| oA (oS (show AV.ren [1] (jT [jI (capN (val ((digs 88 (aV am ae)).take 48))), jB (capB (val ((digs 88 (aV am ae)).take 48)))]) = jT [jI (val ((digs 88 (aV am ae)).take 48)), jB true] from cap_pos c2)) <| oA (oS (show updOf [1] [jC ((jB (decide (am < 0))) :: (ints .u8 (digs 88 (aV am ae)))) 50] [jC ((jB (decide (am < 0))) :: (ints .u8 (digs 88 (aV am ae)))) 50] [jC ((jB (decide (am < 0))) :: (ints .u8 (digs 88 (aV am ae)))) 50] ++ List.map (fun x => x.ren [1]) (List.drop 1 [jC ((jB (decide (am < 0))) :: (ints .u8 (digs 88 (aV am ae)))) 50]) = [jC ((jB (decide (am < 0))) :: (ints .u8 (digs 88 (aV am ae)))) 50] from by simp [updOf, AObj.owned, AObj.ren, renL, AV.ren, renL_ints, renL_u8s, renL_append])) <| oS (show AV.bool (!true) = jB false from rfl)
      let q3 : List Orc := [rG [(0, {call := some ⟨[1], [jP 0 0, jI 0], [jC ((jB (decide (am < 0))) :: (ints .u8 (digs 88 (aV am ae)))) 50], jT [jI (capN (val ((digs 88 (aV am ae)).take 48))), jB (capB (val ((digs 88 (aV am ae)).take 48)))], [jC ((jB (decide (am < 0))) :: (ints .u8 (digs 88 (aV am ae)))) 50]⟩, val := some (jT [jI (val ((digs 88 (aV am ae)).take 48)), jB true]), obj := some [jC ((jB (decide (am < 0))) :: (ints .u8 (digs 88 (aV am ae)))) 50]})], rG [hhB 1 false]]
      by_cases c3 : decide (am < 0) = true
      · have o4 := oA (oLf ((jB (decide (am < 0))) :: (ints .u8 (digs 88 (aV am ae)))) (0) (jB true) (atT (rfl) c3)) <| oA (oS (show AV.bool (!true) = jB false from rfl)) <| oA (oS (show 0 ≤ (48 : Int) from by omega)) <| oA (oS (show ((Int.toNat (48 : Int)) : Nat) ≤ 88 from by omega)) <| oA (oS (show (88 : Nat) ≤ 88 from by omega)) <| oA (oS (show (88 : Nat) ≤ 88 from by omega)) <| oA (oS (show AV.slice 1 (if 88 = (Int.toNat (48 : Int)) then 1 else 1 + (Int.toNat (48 : Int)) * 1) (88 - (Int.toNat (48 : Int))) (88 - (Int.toNat (48 : Int))) = AV.slice 1 49 40 40 from by kernel_rfl)) <| oA (oS (show [AV.slice 1 49 40 40] = renL [1] [AV.slice 0 49 (((digs 88 (aV am ae)).drop 48).length) 40] from by simp only [renL, AV.ren, List.length_drop, digs_length]; rfl)) <| oA (oS (show Meets Try.prog 59 [AV.slice 0 49 (((digs 88 (aV am ae)).drop 48).length) 40] [AObj.ro 49 (ints .u8 ((digs 88 (aV am ae)).drop 48))] (jB (decide (val ((digs 88 (aV am ae)).drop 48) = 0))) [AObj.ro 49 (ints .u8 ((digs 88 (aV am ae)).drop 48))] from none_meets ((digs 88 (aV am ae)).drop 48) 49 40 (by simp only [List.length_drop, digs_length] <;> omega) (by simp only [List.length_drop, digs_length] <;> omega) (Dig.drop (digs_dig _ _) _))) <| oS (show Fits (jC ((jB (decide (am < 0))) :: (ints .u8 (digs 88 (aV am ae)))) 50) (AObj.ren [1] (AObj.ro 49 (ints .u8 ((digs 88 (aV am ae)).drop 48)))) from fits_fig (i := 48) _ rfl List.take_length)
        let q4 : List Orc := [rG [hhB 1 true, hhB 2 false]]
        by_cases c4 : val ((digs 88 (aV am ae)).drop 48) = 0
        · exact meets_run (fn := Try.f26) 2 (q1 ++ (q2 ++ (q3 ++ (q4 ++ [rG [hhV 1 (AV.slice 1 49 40 40), (2, {call := some ⟨[1], [AV.slice 0 49 (((digs 88 (aV am ae)).drop 48).length) 40], [AObj.ro 49 (ints .u8 ((digs 88 (aV am ae)).drop 48))], jB (decide (val ((digs 88 (aV am ae)).drop 48) = 0)), [AObj.ro 49 (ints .u8 ((digs 88 (aV am ae)).drop 48))]⟩, val := some (jB true), obj := some [jC ((jB (decide (am < 0))) :: (ints .u8 (digs 88 (aV am ae)))) 50]})], rG [hhI 1 (-(val ((digs 88 (aV am ae)).take 48)))]])))) [{}, {}] Try.func26 (by kernel_rfl) Try.call26
            (oA o1 <| oA o2 <| oA o3 <| oA o4 <| oA (oS (bT c4)) <| oA (oS (show updOf [1] [jC ((jB (decide (am < 0))) :: (ints .u8 (digs 88 (aV am ae)))) 50] [AObj.ro 49 (ints .u8 ((digs 88 (aV am ae)).drop 48))] [AObj.ro 49 (ints .u8 ((digs 88 (aV am ae)).drop 48))] ++ List.map (fun x => x.ren [1]) (List.drop 1 [AObj.ro 49 (ints .u8 ((digs 88 (aV am ae)).drop 48))]) = [jC ((jB (decide (am < 0))) :: (ints .u8 (digs 88 (aV am ae)))) 50] from rfl)) <| oW (0 - (val ((digs 88 (aV am ae)).take 48))) (-(val ((digs 88 (aV am ae)).take 48))) (by omega))
            (oA (oS (show jT [jI (-(val ((digs 88 (aV am ae)).take 48))), jI 0] = jT [jI ((floorR am ae).1), jI ((floorR am ae).2)] from floor_even c1 c2 c3 c4)) <| oV (D := (fun n => decide (0 ≤ n))) (jT [jI ((floorR am ae).1), jI ((floorR am ae).2)]) rfl) (by kernel_rfl)
        · exact meets_run (fn := Try.f26) 2 (q1 ++ (q2 ++ (q3 ++ (q4 ++ [rG [hhV 1 (AV.slice 1 49 40 40), (2, {call := some ⟨[1], [AV.slice 0 49 (((digs 88 (aV am ae)).drop 48).length) 40], [AObj.ro 49 (ints .u8 ((digs 88 (aV am ae)).drop 48))], jB (decide (val ((digs 88 (aV am ae)).drop 48) = 0)), [AObj.ro 49 (ints .u8 ((digs 88 (aV am ae)).drop 48))]⟩, val := some (jB false), obj := some [jC ((jB (decide (am < 0))) :: (ints .u8 (digs 88 (aV am ae)))) 50]})], rG [hhI 1 (-(val ((digs 88 (aV am ae)).take 48))), hhI 2 ((-(val ((digs 88 (aV am ae)).take 48))) - 1)]])))) [{}, {}] Try.func26 (by kernel_rfl) Try.call26
            (oA o1 <| oA o2 <| oA o3 <| oA o4 <| oA (oS (bF c4)) <| oA (oS (show updOf [1] [jC ((jB (decide (am < 0))) :: (ints .u8 (digs 88 (aV am ae)))) 50] [AObj.ro 49 (ints .u8 ((digs 88 (aV am ae)).drop 48))] [AObj.ro 49 (ints .u8 ((digs 88 (aV am ae)).drop 48))] ++ List.map (fun x => x.ren [1]) (List.drop 1 [AObj.ro 49 (ints .u8 ((digs 88 (aV am ae)).drop 48))]) = [jC ((jB (decide (am < 0))) :: (ints .u8 (digs 88 (aV am ae)))) 50] from rfl)) <| oA (oW (0 - (val ((digs 88 (aV am ae)).take 48))) (-(val ((digs 88 (aV am ae)).take 48))) (by omega)) <| oWs ((-(val ((digs 88 (aV am ae)).take 48))) - 1) (by omega))
            (oA (oS (show jT [jI ((-(val ((digs 88 (aV am ae)).take 48))) - 1), jI 0] = jT [jI ((floorR am ae).1), jI ((floorR am ae).2)] from floor_down c1 c2 c3 c4)) <| oV (D := (fun n => decide (0 ≤ n))) (jT [jI ((floorR am ae).1), jI ((floorR am ae).2)]) rfl) (by kernel_rfl)
      · exact meets_run (fn := Try.f26) 2 (q1 ++ (q2 ++ (q3 ++ [rG [hhB 1 false, hhB 2 true], rG []]))) [{}, {}] Try.func26 (by kernel_rfl) Try.call26
          (oA o1 <| oA o2 <| oA o3 <| oA (oLf ((jB (decide (am < 0))) :: (ints .u8 (digs 88 (aV am ae)))) (0) (jB false) (atF (rfl) c3)) <| oS (show AV.bool (!false) = jB true from rfl))
          (oA (oS (show jT [jI (val ((digs 88 (aV am ae)).take 48)), jI 0] = jT [jI ((floorR am ae).1), jI ((floorR am ae).2)] from floor_plus c1 c2 c3)) <| oV (D := (fun n => decide (0 ≤ n))) (jT [jI ((floorR am ae).1), jI ((floorR am ae).2)]) rfl) (by kernel_rfl)
    · exact meets_run (fn := Try.f26) 2 (q1 ++ (q2 ++ [rG [(0, {call := some ⟨[1], [jP 0 0, jI 0], [jC ((jB (decide (am < 0))) :: (ints .u8 (digs 88 (aV am ae)))) 50], jT [jI (capN (val ((digs 88 (aV am ae)).take 48))), jB (capB (val ((digs 88 (aV am ae)).take 48)))], [jC ((jB (decide (am < 0))) :: (ints .u8 (digs 88 (aV am ae)))) 50]⟩, val := some (jT [jI 0, jB false]), obj := some [jC ((jB (decide (am < 0))) :: (ints .u8 (digs 88 (aV am ae)))) 50]})], rG [hhB 1 true], rG []])) [{}, {}] Try.func26 (by kernel_rfl) Try.call26
        (oA o1 <| oA o2 <| oA (oS (show [jP 1 0, jI 0] = renL [1] [jP 0 0, jI 0] from rfl)) <| oA (oS (show Meets Try.prog 58 [jP 0 0, jI 0] [jC ((jB (decide (am < 0))) :: (ints .u8 (digs 88 (aV am ae)))) 50] (jT [jI (capN (val ((digs 88 (aV am ae)).take 48))), jB (capB (val ((digs 88 (aV am ae)).take 48)))]) [jC ((jB (decide (am < 0))) :: (ints .u8 (digs 88 (aV am ae)))) 50] from whole_meets (decide (am < 0)) (digs 88 (aV am ae)) 0 48 (digs_length _ _) (digs_dig _ _) (by omega) (by decide))) <| oA (oS (show Fits (jC ((jB (decide (am < 0))) :: (ints .u8 (digs 88 (aV am ae)))) 50) (AObj.ren [1] (jC ((jB (decide (am < 0))) :: (ints .u8 (digs 88 (aV am ae)))) 50)) from Fits.of_eq (by simp only [AObj.ren, renL, AV.ren, renL_ints, renL_u8s, renL_append]))) <| oA (oS (show AV.ren [1] (jT [jI (capN (val ((digs 88 (aV am ae)).take 48))), jB (capB (val ((digs 88 (aV am ae)).take 48)))]) = jT [jI 0, jB false] from cap_neg c2)) <| oA (oS (show updOf [1] [jC ((jB (decide (am < 0))) :: (ints .u8 (digs 88 (aV am ae)))) 50] [jC ((jB (decide (am < 0))) :: (ints .u8 (digs 88 (aV am ae)))) 50] [jC ((jB (decide (am < 0))) :: (ints .u8 (digs 88 (aV am ae)))) 50] ++ List.map (fun x => x.ren [1]) (List.drop 1 [jC ((jB (decide (am < 0))) :: (ints .u8 (digs 88 (aV am ae)))) 50]) = [jC ((jB (decide (am < 0))) :: (ints .u8 (digs 88 (aV am ae)))) 50] from by simp [updOf, AObj.owned, AObj.ren, renL, AV.ren, renL_ints, renL_u8s, renL_append])) <| oS (show AV.bool (!false) = jB true from rfl))
        (oA (oS (show jT [jI 0, jI 10] = jT [jI ((floorR am ae).1), jI ((floorR am ae).2)] from by first | exact floor_over c1 c2 | simp [floorR, c1])) <| oV (D := (fun n => decide (0 ≤ n))) (jT [jI ((floorR am ae).1), jI ((floorR am ae).2)]) rfl) (by kernel_rfl)
  · exact meets_run (fn := Try.f26) 2 (q1 ++ [rG [hhV 0 (jA [jI am, jI ae]), hhMB 1 (right_meets am ae) false, hhB 2 true], rG []]) [{}, {}] Try.func26 (by kernel_rfl) Try.call26
      (oA o1 <| oA (oS (boolF c1)) <| oS (show AV.bool (!false) = jB true from rfl))
      (oA (oS (show jT [jI 0, jI 10] = jT [jI ((floorR am ae).1), jI ((floorR am ae).2)] from by first | exact floor_over c1 c2 | simp [floorR, c1])) <| oV (D := (fun n => decide (0 ≤ n))) (jT [jI ((floorR am ae).1), jI ((floorR am ae).2)]) rfl) (by kernel_rfl)

def ofR (n : Int) : Int × Int × Int := if rightB (trimmedS n 0).1 (trimmedS n 0).2 = true then ((trimmedS n 0).1, (trimmedS n 0).2, 0) else bad3

theorem of_meets (n : Int) (h : -9223372036854775808 < n ∧ n < 9223372036854775808) : Meets Try.prog 15 [jI n] [] (jT [jA [jI ((ofR n).1), jI ((ofR n).2.1)], jI ((ofR n).2.2)]) [] := by
  have o1 := oA (oC (trimmed_meets n 0 (by omega) (by omega)) rfl) <| oA (oSw ([jI ((trimmedS n 0).1), jI ((trimmedS n 0).2)]) ([jI 0, jI 0]) 23 (rfl) (rfl)) <| oA (oLw ([jI ((trimmedS n 0).1), jI ((trimmedS n 0).2)]) (rfl)) <| oC (right_meets ((trimmedS n 0).1) ((trimmedS n 0).2)) rfl
  let q1 : List Orc := [rG [hhN 0 0], rG [hhM 1 (trimmed_meets n 0 (by omega) (by omega)), hhN 2 1, (3, {obj := some [jC [jI ((trimmedS n 0).1), jI ((trimmedS n 0).2)] 23]})]]
  by_cases c1 : rightB ((trimmedS n 0).1) ((trimmedS n 0).2) = true
  · exact meets_run (fn := Try.f15) 2 (q1 ++ [rG [hhV 0 (jA [jI ((trimmedS n 0).1), jI ((trimmedS n 0).2)]), hhMB 1 (right_meets ((trimmedS n 0).1) ((trimmedS n 0).2)) true, hhB 2 false], rG [hhV 0 (jA [jI ((trimmedS n 0).1), jI ((trimmedS n 0).2)]), (1, {obj := some [jC [jI ((trimmedS n 0).1), jI ((trimmedS n 0).2)] 23]})]]) [{val := some (jA [jI ((trimmedS n 0).1), jI ((trimmedS n 0).2)])}, {}] Try.func15 (by kernel_rfl) Try.call15
      (oA o1 <| oA (oS (boolT c1)) <| oA (oS (show AV.bool (!true) = jB false from rfl)) <| oA (oLw ([jI ((trimmedS n 0).1), jI ((trimmedS n 0).2)]) (rfl)) <| oSw ([jI ((trimmedS n 0).1), jI ((trimmedS n 0).2)]) ([jI 0, jI 0]) 23 (rfl) (rfl))
      (oA (oLw ([jI ((trimmedS n 0).1), jI ((trimmedS n 0).2)]) (rfl)) <| oA (oS (show jT [jA [jI ((trimmedS n 0).1), jI ((trimmedS n 0).2)], jI 0] = jT [jA [jI ((ofR n).1), jI ((ofR n).2.1)], jI ((ofR n).2.2)] from by simp [ofR, bad3, c1])) <| oV (D := (fun n => decide (0 ≤ n))) (jT [jA [jI ((ofR n).1), jI ((ofR n).2.1)], jI ((ofR n).2.2)]) rfl) (by kernel_rfl)
  · exact meets_run (fn := Try.f15) 2 (q1 ++ [rG [hhV 0 (jA [jI ((trimmedS n 0).1), jI ((trimmedS n 0).2)]), hhMB 1 (right_meets ((trimmedS n 0).1) ((trimmedS n 0).2)) false, hhB 2 true], rG [(1, {obj := some [jC [jI 0, jI 0] 23]})]]) [{val := some (jA [jI 0, jI 0])}, {}] Try.func15 (by kernel_rfl) Try.call15
      (oA o1 <| oA (oS (boolF c1)) <| oA (oS (show AV.bool (!false) = jB true from rfl)) <| oSw ([jI 0, jI 0]) ([jI 0, jI 0]) 23 (rfl) (rfl))
      (oA (oLw ([jI 0, jI 0]) (rfl)) <| oA (oS (show jT [jA [jI 0, jI 0], jI 10] = jT [jA [jI ((ofR n).1), jI ((ofR n).2.1)], jI ((ofR n).2.2)] from by simp [ofR, bad3, c1])) <| oV (D := (fun n => decide (0 ≤ n))) (jT [jA [jI ((ofR n).1), jI ((ofR n).2.1)], jI ((ofR n).2.2)]) rfl) (by kernel_rfl)

end Go.Proofs.Ytmgiefeggkikcaa
