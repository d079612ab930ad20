import Derived.Test.YtabgphldbgdbpaaDecL
set_option linter.unusedVariables false
set_option linter.unusedSimpArgs false
set_option maxRecDepth 20000
namespace Go.Proofs.Ytabgphldbgdbpaa
open Go Sx Dc

def cmpR (am ae bm be : Int) : Int := if rightB am ae = true ∧ rightB bm be = true then (if sV am ae < sV bm be then -1 else if sV bm be < sV am ae then 1 else 0) else 0
theorem val_sumV {am ae bm be : Int} (ham : -1000000000000000 < am ∧ am < 1000000000000000) (hae : -18 ≤ ae ∧ ae ≤ 18) (hbm : -1000000000000000 < bm ∧ bm < 1000000000000000) (hbe : -18 ≤ be ∧ be ≤ 18) : val (digs 88 (sumV am ae bm be)) = ((sV am ae + sV bm be).natAbs : Int) := by
  have hx := aV_bounds ham hae
  have hy := aV_bounds hbm hbe
  have h1 : sV am ae = aV am ae ∨ sV am ae = -aV am ae := by
    by_cases c : am < 0
    · exact .inr (sV_neg c)
    · exact .inl (sV_pos c)
  have h2 : sV bm be = aV bm be ∨ sV bm be = -aV bm be := by
    by_cases c : bm < 0
    · exact .inr (sV_neg c)
    · exact .inl (sV_pos c)
  have h73 : (10 : Int) ^ 73 + 10 ^ 73 ≤ 10 ^ 88 := by decide
  rw [sumV, val_digs _ _ (by omega)]
  generalize (10 : Int) ^ 73 = p at *
  generalize (10 : Int) ^ 88 = q at *
  omega
theorem cmp_zero {am ae bm be : Int} (c1 : rightB am ae = true) (c2 : rightB bm be = true) (c3 : val (digs 88 (sumV am ae (-bm) be)) = 0) : AV.int .i64 0 = AV.int .i64 (cmpR am ae bm be) := by
  have h1 := right_bounds c1
  have h2 := right_bounds c2
  rw [val_sumV h1.1 (by omega) (by omega) (by omega), sV_neg'] at c3
  rw [cmpR, if_pos ⟨c1, c2⟩, if_neg (by omega), if_neg (by omega)]
theorem cmp_less {am ae bm be : Int} (c1 : rightB am ae = true) (c2 : rightB bm be = true) (c3 : ¬ val (digs 88 (sumV am ae (-bm) be)) = 0) (c4 : sumB am ae (-bm) be = true) : AV.int .i64 (-1) = AV.int .i64 (cmpR am ae bm be) := by
  have h1 := right_bounds c1
  have h2 := right_bounds c2
  rw [val_sumV h1.1 (by omega) (by omega) (by omega)] at c3
  rw [sumB_sign h1.1 (by omega) (by omega) (by omega) (by omega), sV_neg', decide_eq_true_eq] at c4
  rw [cmpR, if_pos ⟨c1, c2⟩, if_pos (by omega)]
theorem cmp_more {am ae bm be : Int} (c1 : rightB am ae = true) (c2 : rightB bm be = true) (c3 : ¬ val (digs 88 (sumV am ae (-bm) be)) = 0) (c4 : ¬ sumB am ae (-bm) be = true) : AV.int .i64 1 = AV.int .i64 (cmpR am ae bm be) := by
  have h1 := right_bounds c1
  have h2 := right_bounds c2
  rw [val_sumV h1.1 (by omega) (by omega) (by omega), sV_neg'] at c3
  rw [sumB_sign h1.1 (by omega) (by omega) (by omega) (by rw [sV_neg']; omega), sV_neg', decide_eq_true_eq] at c4
  rw [cmpR, if_pos ⟨c1, c2⟩, if_neg (by omega), if_pos (by omega)]

theorem cmp_meets (am ae bm be : Int) : Meets Try.prog 27 [AV.agg [AV.int .i64 am, AV.int .i64 ae], AV.agg [AV.int .i64 bm, AV.int .i64 be]] [] (AV.int .i64 (cmpR am ae bm be)) [] := by
  by_cases c1 : rightB am ae = true
  · by_cases c2 : rightB bm be = true
    · by_cases c3 : val (digs 88 (sumV am ae (-bm) be)) = 0
      · exact meets_of_exec (fn := Try.f27) 3 [.reg [(0, {nm := [0]}), (1, {nm := [1]})], .reg [(0, {val := some (AV.agg [AV.int .i64 am, AV.int .i64 ae])}), (1, {call := some ⟨[], [AV.agg [AV.int .i64 am, AV.int .i64 ae]], [], AV.bool (rightB am ae), []⟩, val := some (AV.bool true)}), (2, {val := some (AV.bool false)}), (4, {val := some (AV.agg [AV.int .i64 bm, AV.int .i64 be])}), (5, {call := some ⟨[], [AV.agg [AV.int .i64 bm, AV.int .i64 be]], [], AV.bool (rightB bm be), []⟩, val := some (AV.bool true)}), (6, {val := some (AV.bool false)})], .reg [(0, {val := some (AV.agg [AV.int .i64 am, AV.int .i64 ae])}), (1, {val := some (AV.agg [AV.int .i64 bm, AV.int .i64 be])}), (2, {val := some (AV.agg [AV.int .i64 am, AV.int .i64 ae, AV.int .i64 bm, AV.int .i64 be])}), (3, {call := some ⟨[], [AV.agg [AV.int .i64 am, AV.int .i64 ae, AV.int .i64 bm, AV.int .i64 be]], [], AV.agg ((AV.bool (sumB am ae (-bm) be)) :: (ints .u8 (digs 88 (sumV am ae (-bm) be)))), []⟩, val := some (AV.agg ((AV.bool (sumB am ae (-bm) be)) :: (ints .u8 (digs 88 (sumV am ae (-bm) be)))))}), (4, {nm := [2], obj := some [AObj.cells ((AV.bool false) :: (ints .u8 (List.replicate 88 0))) 50]}), (5, {obj := some [AObj.cells ((AV.bool (sumB am ae (-bm) be)) :: (ints .u8 (digs 88 (sumV am ae (-bm) be)))) 50]})], .reg [(1, {val := some (AV.slice 2 1 88 88)}), (2, {call := some ⟨[2], [AV.slice 0 1 ((digs 88 (sumV am ae (-bm) be)).length) 88], [AObj.ro 1 (ints .u8 (digs 88 (sumV am ae (-bm) be)))], AV.bool (decide (val (digs 88 (sumV am ae (-bm) be)) = 0)), [AObj.ro 1 (ints .u8 (digs 88 (sumV am ae (-bm) be)))]⟩, val := some (AV.bool true), obj := some [AObj.cells ((AV.bool (sumB am ae (-bm) be)) :: (ints .u8 (digs 88 (sumV am ae (-bm) be)))) 50]})], .reg []] [{}]
          (r := ⟨[0 ≤ 0,
              0 - 0 + 2 ≤ List.length [AV.int .i64 am, AV.int .i64 ae],
              List.take 2 (List.drop (0 - 0) [AV.int .i64 am, AV.int .i64 ae]) = [AV.int .i64 am, AV.int .i64 ae],
              [AV.agg [AV.int .i64 am, AV.int .i64 ae]] = renL [] [AV.agg [AV.int .i64 am, AV.int .i64 ae]],
              Meets Try.prog 30 [AV.agg [AV.int .i64 am, AV.int .i64 ae]] [] (AV.bool (rightB am ae)) [],
              AV.ren [] (AV.bool (rightB am ae)) = AV.bool true,
              AV.bool (!true) = AV.bool false,
              0 ≤ 0,
              0 - 0 + 2 ≤ List.length [AV.int .i64 bm, AV.int .i64 be],
              List.take 2 (List.drop (0 - 0) [AV.int .i64 bm, AV.int .i64 be]) = [AV.int .i64 bm, AV.int .i64 be],
              [AV.agg [AV.int .i64 bm, AV.int .i64 be]] = renL [] [AV.agg [AV.int .i64 bm, AV.int .i64 be]],
              Meets Try.prog 30 [AV.agg [AV.int .i64 bm, AV.int .i64 be]] [] (AV.bool (rightB bm be)) [],
              AV.ren [] (AV.bool (rightB bm be)) = AV.bool true,
              AV.bool (!true) = AV.bool false,
              0 ≤ 0,
              0 - 0 + 2 ≤ List.length [AV.int .i64 am, AV.int .i64 ae],
              List.take 2 (List.drop (0 - 0) [AV.int .i64 am, AV.int .i64 ae]) = [AV.int .i64 am, AV.int .i64 ae],
              0 ≤ 0,
              0 - 0 + 2 ≤ List.length [AV.int .i64 bm, AV.int .i64 be],
              List.take 2 (List.drop (0 - 0) [AV.int .i64 bm, AV.int .i64 be]) = [AV.int .i64 bm, AV.int .i64 be],
              ([AV.int .i64 am, AV.int .i64 ae] : List AV).length = 2,
              0 + 2 ≤ ([AV.int .i64 0, AV.int .i64 0, AV.int .i64 0, AV.int .i64 0] : List AV).length,
              ([AV.int .i64 bm, AV.int .i64 be] : List AV).length = 2,
              2 + 2 ≤ (List.take 0 [AV.int .i64 0, AV.int .i64 0, AV.int .i64 0, AV.int .i64 0] ++ [AV.int .i64 am, AV.int .i64 ae] ++ List.drop 2 [AV.int .i64 0, AV.int .i64 0, AV.int .i64 0, AV.int .i64 0] : List AV).length,
              AV.agg (List.take 2 (List.take 0 [AV.int .i64 0, AV.int .i64 0, AV.int .i64 0, AV.int .i64 0] ++ [AV.int .i64 am, AV.int .i64 ae] ++ List.drop 2 [AV.int .i64 0, AV.int .i64 0, AV.int .i64 0, AV.int .i64 0]) ++ [AV.int .i64 bm, AV.int .i64 be] ++ List.drop 4 (List.take 0 [AV.int .i64 0, AV.int .i64 0, AV.int .i64 0, AV.int .i64 0] ++ [AV.int .i64 am, AV.int .i64 ae] ++ List.drop 2 [AV.int .i64 0, AV.int .i64 0, AV.int .i64 0, AV.int .i64 0])) = AV.agg [AV.int .i64 am, AV.int .i64 ae, AV.int .i64 bm, AV.int .i64 be],
              [AV.agg [AV.int .i64 am, AV.int .i64 ae, AV.int .i64 bm, AV.int .i64 be]] = renL [] [AV.agg [AV.int .i64 am, AV.int .i64 ae, AV.int .i64 bm, AV.int .i64 be]],
              Meets Try.prog 56 [AV.agg [AV.int .i64 am, AV.int .i64 ae, AV.int .i64 bm, AV.int .i64 be]] [] (AV.agg ((AV.bool (sumB am ae (-bm) be)) :: (ints .u8 (digs 88 (sumV am ae (-bm) be))))) [],
              AV.ren [] (AV.agg ((AV.bool (sumB am ae (-bm) be)) :: (ints .u8 (digs 88 (sumV am ae (-bm) be))))) = AV.agg ((AV.bool (sumB am ae (-bm) be)) :: (ints .u8 (digs 88 (sumV am ae (-bm) be)))),
              AObj.cells (zeroCellsA Try.prog 50) 50 = AObj.cells ((AV.bool false) :: (ints .u8 (List.replicate 88 0))) 50,
              ((AV.bool (sumB am ae (-bm) be)) :: (ints .u8 (digs 88 (sumV am ae (-bm) be))) : List AV).length = 89,
              0 + 89 ≤ List.length ((AV.bool false) :: (ints .u8 (List.replicate 88 0))),
              AObj.cells (List.take 0 ((AV.bool false) :: (ints .u8 (List.replicate 88 0))) ++ ((AV.bool (sumB am ae (-bm) be)) :: (ints .u8 (digs 88 (sumV am ae (-bm) be)))) ++ List.drop (0 + 89) ((AV.bool false) :: (ints .u8 (List.replicate 88 0)))) 50 = AObj.cells ((AV.bool (sumB am ae (-bm) be)) :: (ints .u8 (digs 88 (sumV am ae (-bm) be)))) 50,
              (0 : Nat) ≤ 88,
              (88 : Nat) ≤ 88,
              (88 : Nat) ≤ 88,
              AV.slice 2 (if 88 = 0 then 1 else 1 + 0 * 1) (88 - 0) (88 - 0) = AV.slice 2 1 88 88,
              [AV.slice 2 1 88 88] = renL [2] [AV.slice 0 1 ((digs 88 (sumV am ae (-bm) be)).length) 88],
              Meets Try.prog 59 [AV.slice 0 1 ((digs 88 (sumV am ae (-bm) be)).length) 88] [AObj.ro 1 (ints .u8 (digs 88 (sumV am ae (-bm) be)))] (AV.bool (decide (val (digs 88 (sumV am ae (-bm) be)) = 0))) [AObj.ro 1 (ints .u8 (digs 88 (sumV am ae (-bm) be)))],
              Fits (AObj.cells ((AV.bool (sumB am ae (-bm) be)) :: (ints .u8 (digs 88 (sumV am ae (-bm) be)))) 50) (AObj.ren [2] (AObj.ro 1 (ints .u8 (digs 88 (sumV am ae (-bm) be))))),
              AV.ren [2] (AV.bool (decide (val (digs 88 (sumV am ae (-bm) be)) = 0))) = AV.bool true,
              updOf [2] [AObj.cells ((AV.bool (sumB am ae (-bm) be)) :: (ints .u8 (digs 88 (sumV am ae (-bm) be)))) 50] [AObj.ro 1 (ints .u8 (digs 88 (sumV am ae (-bm) be)))] [AObj.ro 1 (ints .u8 (digs 88 (sumV am ae (-bm) be)))] ++ List.map (fun x => x.ren [2]) (List.drop 1 [AObj.ro 1 (ints .u8 (digs 88 (sumV am ae (-bm) be)))]) = [AObj.cells ((AV.bool (sumB am ae (-bm) be)) :: (ints .u8 (digs 88 (sumV am ae (-bm) be)))) 50]],
            .ret, ⟨[some (AV.agg [AV.int .i64 am, AV.int .i64 ae]), some (AV.agg [AV.int .i64 bm, AV.int .i64 be]), some (AV.ptr 0 0), some (AV.ptr 1 0), some (AV.int .i64 0), some (AV.ptr 2 0), some (AV.agg [AV.int .i64 am, AV.int .i64 ae]), some (AV.bool true), some (AV.bool false), some (AV.bool false), some (AV.agg [AV.int .i64 bm, AV.int .i64 be]), some (AV.bool true), some (AV.bool false), some (AV.bool false), some (AV.agg [AV.int .i64 am, AV.int .i64 ae]), some (AV.agg [AV.int .i64 bm, AV.int .i64 be]), some (AV.agg [AV.int .i64 am, AV.int .i64 ae, AV.int .i64 bm, AV.int .i64 be]), some (AV.agg ((AV.bool (sumB am ae (-bm) be)) :: (ints .u8 (digs 88 (sumV am ae (-bm) be))))), some (AV.bool true), some (AV.ptr 2 1), some (AV.slice 2 1 88 88), some (AV.bool true), none, none, none], [some (AObj.cells [AV.int .i64 am, AV.int .i64 ae] 23), some (AObj.cells [AV.int .i64 bm, AV.int .i64 be] 23), some (AObj.cells ((AV.bool (sumB am ae (-bm) be)) :: (ints .u8 (digs 88 (sumV am ae (-bm) be)))) 50)]⟩, []⟩)
          (ob := [AV.int .i64 0 = AV.int .i64 (cmpR am ae bm be)])
          Try.func27 (by kernel_rfl) Try.call27 (by kernel_rfl)
          ⟨Nat.zero_le _, Nat.le_of_ble_eq_true rfl, rfl, rfl, right_meets am ae, boolT c1, rfl, Nat.zero_le _, Nat.le_of_ble_eq_true rfl, rfl, rfl, right_meets bm be, boolT c2, rfl, Nat.zero_le _, Nat.le_of_ble_eq_true rfl, rfl, Nat.zero_le _, Nat.le_of_ble_eq_true rfl, rfl, rfl, Nat.le_of_ble_eq_true (by kernel_rfl), rfl, Nat.le_of_ble_eq_true (by kernel_rfl), by kernel_rfl, rfl, difference_meets am ae bm be (right_bounds c1).1 (right_bounds c1).2 (right_bounds c2).1 (right_bounds c2).2, by simp only [renL, AV.ren, renL_ints, renL_u8s, renL_append], by kernel_rfl, (by simp only [List.length_cons, List.length_nil, List.length_append, ints_length, u8s_length, List.length_replicate, List.length_set, List.length_map, digs_length] <;> omega), (by simp only [List.length_cons, List.length_nil, List.length_append, ints_length, u8s_length, List.length_replicate, List.length_set, List.length_map, digs_length] <;> omega), store_whole (by simp only [List.length_cons, List.length_nil, List.length_append, ints_length, u8s_length, List.length_replicate, List.length_set, List.length_map, digs_length] <;> omega), by omega, by omega, by omega, by kernel_rfl, by simp only [renL, AV.ren, List.length_drop, digs_length]; rfl, none_meets (digs 88 (sumV am ae (-bm) be)) 1 88 (by simp only [List.length_drop, digs_length] <;> omega) (by simp only [List.length_drop, digs_length] <;> omega) (digs_dig _ _), fits_fig (i := 0) _ rfl (by rw [List.drop_zero, List.take_length]), bT c3, rfl, trivial⟩
          (.inl rfl) (by kernel_rfl) ⟨by first | exact cmp_zero c1 c2 c3 | (unfold cmpR; simp [*]), trivial⟩
      · by_cases c4 : sumB am ae (-bm) be = true
        · exact meets_of_exec (fn := Try.f27) 3 [.reg [(0, {nm := [0]}), (1, {nm := [1]})], .reg [(0, {val := some (AV.agg [AV.int .i64 am, AV.int .i64 ae])}), (1, {call := some ⟨[], [AV.agg [AV.int .i64 am, AV.int .i64 ae]], [], AV.bool (rightB am ae), []⟩, val := some (AV.bool true)}), (2, {val := some (AV.bool false)}), (4, {val := some (AV.agg [AV.int .i64 bm, AV.int .i64 be])}), (5, {call := some ⟨[], [AV.agg [AV.int .i64 bm, AV.int .i64 be]], [], AV.bool (rightB bm be), []⟩, val := some (AV.bool true)}), (6, {val := some (AV.bool false)})], .reg [(0, {val := some (AV.agg [AV.int .i64 am, AV.int .i64 ae])}), (1, {val := some (AV.agg [AV.int .i64 bm, AV.int .i64 be])}), (2, {val := some (AV.agg [AV.int .i64 am, AV.int .i64 ae, AV.int .i64 bm, AV.int .i64 be])}), (3, {call := some ⟨[], [AV.agg [AV.int .i64 am, AV.int .i64 ae, AV.int .i64 bm, AV.int .i64 be]], [], AV.agg ((AV.bool (sumB am ae (-bm) be)) :: (ints .u8 (digs 88 (sumV am ae (-bm) be)))), []⟩, val := some (AV.agg ((AV.bool (sumB am ae (-bm) be)) :: (ints .u8 (digs 88 (sumV am ae (-bm) be)))))}), (4, {nm := [2], obj := some [AObj.cells ((AV.bool false) :: (ints .u8 (List.replicate 88 0))) 50]}), (5, {obj := some [AObj.cells ((AV.bool (sumB am ae (-bm) be)) :: (ints .u8 (digs 88 (sumV am ae (-bm) be)))) 50]})], .reg [(1, {val := some (AV.slice 2 1 88 88)}), (2, {call := some ⟨[2], [AV.slice 0 1 ((digs 88 (sumV am ae (-bm) be)).length) 88], [AObj.ro 1 (ints .u8 (digs 88 (sumV am ae (-bm) be)))], AV.bool (decide (val (digs 88 (sumV am ae (-bm) be)) = 0)), [AObj.ro 1 (ints .u8 (digs 88 (sumV am ae (-bm) be)))]⟩, val := some (AV.bool false), obj := some [AObj.cells ((AV.bool (sumB am ae (-bm) be)) :: (ints .u8 (digs 88 (sumV am ae (-bm) be)))) 50]})], .reg [(1, {val := some (AV.bool true)})], .reg []] [{}]
            (r := ⟨[0 ≤ 0,
                0 - 0 + 2 ≤ List.length [AV.int .i64 am, AV.int .i64 ae],
                List.take 2 (List.drop (0 - 0) [AV.int .i64 am, AV.int .i64 ae]) = [AV.int .i64 am, AV.int .i64 ae],
                [AV.agg [AV.int .i64 am, AV.int .i64 ae]] = renL [] [AV.agg [AV.int .i64 am, AV.int .i64 ae]],
                Meets Try.prog 30 [AV.agg [AV.int .i64 am, AV.int .i64 ae]] [] (AV.bool (rightB am ae)) [],
                AV.ren [] (AV.bool (rightB am ae)) = AV.bool true,
                AV.bool (!true) = AV.bool false,
                0 ≤ 0,
                0 - 0 + 2 ≤ List.length [AV.int .i64 bm, AV.int .i64 be],
                List.take 2 (List.drop (0 - 0) [AV.int .i64 bm, AV.int .i64 be]) = [AV.int .i64 bm, AV.int .i64 be],
                [AV.agg [AV.int .i64 bm, AV.int .i64 be]] = renL [] [AV.agg [AV.int .i64 bm, AV.int .i64 be]],
                Meets Try.prog 30 [AV.agg [AV.int .i64 bm, AV.int .i64 be]] [] (AV.bool (rightB bm be)) [],
                AV.ren [] (AV.bool (rightB bm be)) = AV.bool true,
                AV.bool (!true) = AV.bool false,
                0 ≤ 0,
                0 - 0 + 2 ≤ List.length [AV.int .i64 am, AV.int .i64 ae],
                List.take 2 (List.drop (0 - 0) [AV.int .i64 am, AV.int .i64 ae]) = [AV.int .i64 am, AV.int .i64 ae],
                0 ≤ 0,
                0 - 0 + 2 ≤ List.length [AV.int .i64 bm, AV.int .i64 be],
                List.take 2 (List.drop (0 - 0) [AV.int .i64 bm, AV.int .i64 be]) = [AV.int .i64 bm, AV.int .i64 be],
                ([AV.int .i64 am, AV.int .i64 ae] : List AV).length = 2,
                0 + 2 ≤ ([AV.int .i64 0, AV.int .i64 0, AV.int .i64 0, AV.int .i64 0] : List AV).length,
                ([AV.int .i64 bm, AV.int .i64 be] : List AV).length = 2,
                2 + 2 ≤ (List.take 0 [AV.int .i64 0, AV.int .i64 0, AV.int .i64 0, AV.int .i64 0] ++ [AV.int .i64 am, AV.int .i64 ae] ++ List.drop 2 [AV.int .i64 0, AV.int .i64 0, AV.int .i64 0, AV.int .i64 0] : List AV).length,
                AV.agg (List.take 2 (List.take 0 [AV.int .i64 0, AV.int .i64 0, AV.int .i64 0, AV.int .i64 0] ++ [AV.int .i64 am, AV.int .i64 ae] ++ List.drop 2 [AV.int .i64 0, AV.int .i64 0, AV.int .i64 0, AV.int .i64 0]) ++ [AV.int .i64 bm, AV.int .i64 be] ++ List.drop 4 (List.take 0 [AV.int .i64 0, AV.int .i64 0, AV.int .i64 0, AV.int .i64 0] ++ [AV.int .i64 am, AV.int .i64 ae] ++ List.drop 2 [AV.int .i64 0, AV.int .i64 0, AV.int .i64 0, AV.int .i64 0])) = AV.agg [AV.int .i64 am, AV.int .i64 ae, AV.int .i64 bm, AV.int .i64 be],
                [AV.agg [AV.int .i64 am, AV.int .i64 ae, AV.int .i64 bm, AV.int .i64 be]] = renL [] [AV.agg [AV.int .i64 am, AV.int .i64 ae, AV.int .i64 bm, AV.int .i64 be]],
                Meets Try.prog 56 [AV.agg [AV.int .i64 am, AV.int .i64 ae, AV.int .i64 bm, AV.int .i64 be]] [] (AV.agg ((AV.bool (sumB am ae (-bm) be)) :: (ints .u8 (digs 88 (sumV am ae (-bm) be))))) [],
                AV.ren [] (AV.agg ((AV.bool (sumB am ae (-bm) be)) :: (ints .u8 (digs 88 (sumV am ae (-bm) be))))) = AV.agg ((AV.bool (sumB am ae (-bm) be)) :: (ints .u8 (digs 88 (sumV am ae (-bm) be)))),
                AObj.cells (zeroCellsA Try.prog 50) 50 = AObj.cells ((AV.bool false) :: (ints .u8 (List.replicate 88 0))) 50,
                ((AV.bool (sumB am ae (-bm) be)) :: (ints .u8 (digs 88 (sumV am ae (-bm) be))) : List AV).length = 89,
                0 + 89 ≤ List.length ((AV.bool false) :: (ints .u8 (List.replicate 88 0))),
                AObj.cells (List.take 0 ((AV.bool false) :: (ints .u8 (List.replicate 88 0))) ++ ((AV.bool (sumB am ae (-bm) be)) :: (ints .u8 (digs 88 (sumV am ae (-bm) be)))) ++ List.drop (0 + 89) ((AV.bool false) :: (ints .u8 (List.replicate 88 0)))) 50 = AObj.cells ((AV.bool (sumB am ae (-bm) be)) :: (ints .u8 (digs 88 (sumV am ae (-bm) be)))) 50,
                (0 : Nat) ≤ 88,
                (88 : Nat) ≤ 88,
                (88 : Nat) ≤ 88,
                AV.slice 2 (if 88 = 0 then 1 else 1 + 0 * 1) (88 - 0) (88 - 0) = AV.slice 2 1 88 88,
                [AV.slice 2 1 88 88] = renL [2] [AV.slice 0 1 ((digs 88 (sumV am ae (-bm) be)).length) 88],
                Meets Try.prog 59 [AV.slice 0 1 ((digs 88 (sumV am ae (-bm) be)).length) 88] [AObj.ro 1 (ints .u8 (digs 88 (sumV am ae (-bm) be)))] (AV.bool (decide (val (digs 88 (sumV am ae (-bm) be)) = 0))) [AObj.ro 1 (ints .u8 (digs 88 (sumV am ae (-bm) be)))],
                Fits (AObj.cells ((AV.bool (sumB am ae (-bm) be)) :: (ints .u8 (digs 88 (sumV am ae (-bm) be)))) 50) (AObj.ren [2] (AObj.ro 1 (ints .u8 (digs 88 (sumV am ae (-bm) be))))),
                AV.ren [2] (AV.bool (decide (val (digs 88 (sumV am ae (-bm) be)) = 0))) = AV.bool false,
                updOf [2] [AObj.cells ((AV.bool (sumB am ae (-bm) be)) :: (ints .u8 (digs 88 (sumV am ae (-bm) be)))) 50] [AObj.ro 1 (ints .u8 (digs 88 (sumV am ae (-bm) be)))] [AObj.ro 1 (ints .u8 (digs 88 (sumV am ae (-bm) be)))] ++ List.map (fun x => x.ren [2]) (List.drop 1 [AObj.ro 1 (ints .u8 (digs 88 (sumV am ae (-bm) be)))]) = [AObj.cells ((AV.bool (sumB am ae (-bm) be)) :: (ints .u8 (digs 88 (sumV am ae (-bm) be)))) 50],
                0 ≤ 0,
                ((AV.bool (sumB am ae (-bm) be)) :: (ints .u8 (digs 88 (sumV am ae (-bm) be))) : List AV)[0 - 0]? = some (AV.bool true)],
              .ret, ⟨[some (AV.agg [AV.int .i64 am, AV.int .i64 ae]), some (AV.agg [AV.int .i64 bm, AV.int .i64 be]), some (AV.ptr 0 0), some (AV.ptr 1 0), some (AV.int .i64 (-1)), some (AV.ptr 2 0), some (AV.agg [AV.int .i64 am, AV.int .i64 ae]), some (AV.bool true), some (AV.bool false), some (AV.bool false), some (AV.agg [AV.int .i64 bm, AV.int .i64 be]), some (AV.bool true), some (AV.bool false), some (AV.bool false), some (AV.agg [AV.int .i64 am, AV.int .i64 ae]), some (AV.agg [AV.int .i64 bm, AV.int .i64 be]), some (AV.agg [AV.int .i64 am, AV.int .i64 ae, AV.int .i64 bm, AV.int .i64 be]), some (AV.agg ((AV.bool (sumB am ae (-bm) be)) :: (ints .u8 (digs 88 (sumV am ae (-bm) be))))), some (AV.bool false), some (AV.ptr 2 1), some (AV.slice 2 1 88 88), some (AV.bool false), some (AV.bool true), some (AV.ptr 2 0), some (AV.bool true)], [some (AObj.cells [AV.int .i64 am, AV.int .i64 ae] 23), some (AObj.cells [AV.int .i64 bm, AV.int .i64 be] 23), some (AObj.cells ((AV.bool (sumB am ae (-bm) be)) :: (ints .u8 (digs 88 (sumV am ae (-bm) be)))) 50)]⟩, []⟩)
            (ob := [AV.int .i64 (-1) = AV.int .i64 (cmpR am ae bm be)])
            Try.func27 (by kernel_rfl) Try.call27 (by kernel_rfl)
            ⟨Nat.zero_le _, Nat.le_of_ble_eq_true rfl, rfl, rfl, right_meets am ae, boolT c1, rfl, Nat.zero_le _, Nat.le_of_ble_eq_true rfl, rfl, rfl, right_meets bm be, boolT c2, rfl, Nat.zero_le _, Nat.le_of_ble_eq_true rfl, rfl, Nat.zero_le _, Nat.le_of_ble_eq_true rfl, rfl, rfl, Nat.le_of_ble_eq_true (by kernel_rfl), rfl, Nat.le_of_ble_eq_true (by kernel_rfl), by kernel_rfl, rfl, difference_meets am ae bm be (right_bounds c1).1 (right_bounds c1).2 (right_bounds c2).1 (right_bounds c2).2, by simp only [renL, AV.ren, renL_ints, renL_u8s, renL_append], by kernel_rfl, (by simp only [List.length_cons, List.length_nil, List.length_append, ints_length, u8s_length, List.length_replicate, List.length_set, List.length_map, digs_length] <;> omega), (by simp only [List.length_cons, List.length_nil, List.length_append, ints_length, u8s_length, List.length_replicate, List.length_set, List.length_map, digs_length] <;> omega), store_whole (by simp only [List.length_cons, List.length_nil, List.length_append, ints_length, u8s_length, List.length_replicate, List.length_set, List.length_map, digs_length] <;> omega), by omega, by omega, by omega, by kernel_rfl, by simp only [renL, AV.ren, List.length_drop, digs_length]; rfl, none_meets (digs 88 (sumV am ae (-bm) be)) 1 88 (by simp only [List.length_drop, digs_length] <;> omega) (by simp only [List.length_drop, digs_length] <;> omega) (digs_dig _ _), fits_fig (i := 0) _ rfl (by rw [List.drop_zero, List.take_length]), bF c3, rfl, Nat.zero_le _, atT (rfl) c4, trivial⟩
            (.inl rfl) (by kernel_rfl) ⟨cmp_less c1 c2 c3 c4, trivial⟩
        · exact meets_of_exec (fn := Try.f27) 3 [.reg [(0, {nm := [0]}), (1, {nm := [1]})], .reg [(0, {val := some (AV.agg [AV.int .i64 am, AV.int .i64 ae])}), (1, {call := some ⟨[], [AV.agg [AV.int .i64 am, AV.int .i64 ae]], [], AV.bool (rightB am ae), []⟩, val := some (AV.bool true)}), (2, {val := some (AV.bool false)}), (4, {val := some (AV.agg [AV.int .i64 bm, AV.int .i64 be])}), (5, {call := some ⟨[], [AV.agg [AV.int .i64 bm, AV.int .i64 be]], [], AV.bool (rightB bm be), []⟩, val := some (AV.bool true)}), (6, {val := some (AV.bool false)})], .reg [(0, {val := some (AV.agg [AV.int .i64 am, AV.int .i64 ae])}), (1, {val := some (AV.agg [AV.int .i64 bm, AV.int .i64 be])}), (2, {val := some (AV.agg [AV.int .i64 am, AV.int .i64 ae, AV.int .i64 bm, AV.int .i64 be])}), (3, {call := some ⟨[], [AV.agg [AV.int .i64 am, AV.int .i64 ae, AV.int .i64 bm, AV.int .i64 be]], [], AV.agg ((AV.bool (sumB am ae (-bm) be)) :: (ints .u8 (digs 88 (sumV am ae (-bm) be)))), []⟩, val := some (AV.agg ((AV.bool (sumB am ae (-bm) be)) :: (ints .u8 (digs 88 (sumV am ae (-bm) be)))))}), (4, {nm := [2], obj := some [AObj.cells ((AV.bool false) :: (ints .u8 (List.replicate 88 0))) 50]}), (5, {obj := some [AObj.cells ((AV.bool (sumB am ae (-bm) be)) :: (ints .u8 (digs 88 (sumV am ae (-bm) be)))) 50]})], .reg [(1, {val := some (AV.slice 2 1 88 88)}), (2, {call := some ⟨[2], [AV.slice 0 1 ((digs 88 (sumV am ae (-bm) be)).length) 88], [AObj.ro 1 (ints .u8 (digs 88 (sumV am ae (-bm) be)))], AV.bool (decide (val (digs 88 (sumV am ae (-bm) be)) = 0)), [AObj.ro 1 (ints .u8 (digs 88 (sumV am ae (-bm) be)))]⟩, val := some (AV.bool false), obj := some [AObj.cells ((AV.bool (sumB am ae (-bm) be)) :: (ints .u8 (digs 88 (sumV am ae (-bm) be)))) 50]})], .reg [(1, {val := some (AV.bool false)})], .reg []] [{}]
            (r := ⟨[0 ≤ 0,
                0 - 0 + 2 ≤ List.length [AV.int .i64 am, AV.int .i64 ae],
                List.take 2 (List.drop (0 - 0) [AV.int .i64 am, AV.int .i64 ae]) = [AV.int .i64 am, AV.int .i64 ae],
                [AV.agg [AV.int .i64 am, AV.int .i64 ae]] = renL [] [AV.agg [AV.int .i64 am, AV.int .i64 ae]],
                Meets Try.prog 30 [AV.agg [AV.int .i64 am, AV.int .i64 ae]] [] (AV.bool (rightB am ae)) [],
                AV.ren [] (AV.bool (rightB am ae)) = AV.bool true,
                AV.bool (!true) = AV.bool false,
                0 ≤ 0,
                0 - 0 + 2 ≤ List.length [AV.int .i64 bm, AV.int .i64 be],
                List.take 2 (List.drop (0 - 0) [AV.int .i64 bm, AV.int .i64 be]) = [AV.int .i64 bm, AV.int .i64 be],
                [AV.agg [AV.int .i64 bm, AV.int .i64 be]] = renL [] [AV.agg [AV.int .i64 bm, AV.int .i64 be]],
                Meets Try.prog 30 [AV.agg [AV.int .i64 bm, AV.int .i64 be]] [] (AV.bool (rightB bm be)) [],
                AV.ren [] (AV.bool (rightB bm be)) = AV.bool true,
                AV.bool (!true) = AV.bool false,
                0 ≤ 0,
                0 - 0 + 2 ≤ List.length [AV.int .i64 am, AV.int .i64 ae],
                List.take 2 (List.drop (0 - 0) [AV.int .i64 am, AV.int .i64 ae]) = [AV.int .i64 am, AV.int .i64 ae],
                0 ≤ 0,
                0 - 0 + 2 ≤ List.length [AV.int .i64 bm, AV.int .i64 be],
                List.take 2 (List.drop (0 - 0) [AV.int .i64 bm, AV.int .i64 be]) = [AV.int .i64 bm, AV.int .i64 be],
                ([AV.int .i64 am, AV.int .i64 ae] : List AV).length = 2,
                0 + 2 ≤ ([AV.int .i64 0, AV.int .i64 0, AV.int .i64 0, AV.int .i64 0] : List AV).length,
                ([AV.int .i64 bm, AV.int .i64 be] : List AV).length = 2,
                2 + 2 ≤ (List.take 0 [AV.int .i64 0, AV.int .i64 0, AV.int .i64 0, AV.int .i64 0] ++ [AV.int .i64 am, AV.int .i64 ae] ++ List.drop 2 [AV.int .i64 0, AV.int .i64 0, AV.int .i64 0, AV.int .i64 0] : List AV).length,
                AV.agg (List.take 2 (List.take 0 [AV.int .i64 0, AV.int .i64 0, AV.int .i64 0, AV.int .i64 0] ++ [AV.int .i64 am, AV.int .i64 ae] ++ List.drop 2 [AV.int .i64 0, AV.int .i64 0, AV.int .i64 0, AV.int .i64 0]) ++ [AV.int .i64 bm, AV.int .i64 be] ++ List.drop 4 (List.take 0 [AV.int .i64 0, AV.int .i64 0, AV.int .i64 0, AV.int .i64 0] ++ [AV.int .i64 am, AV.int .i64 ae] ++ List.drop 2 [AV.int .i64 0, AV.int .i64 0, AV.int .i64 0, AV.int .i64 0])) = AV.agg [AV.int .i64 am, AV.int .i64 ae, AV.int .i64 bm, AV.int .i64 be],
                [AV.agg [AV.int .i64 am, AV.int .i64 ae, AV.int .i64 bm, AV.int .i64 be]] = renL [] [AV.agg [AV.int .i64 am, AV.int .i64 ae, AV.int .i64 bm, AV.int .i64 be]],
                Meets Try.prog 56 [AV.agg [AV.int .i64 am, AV.int .i64 ae, AV.int .i64 bm, AV.int .i64 be]] [] (AV.agg ((AV.bool (sumB am ae (-bm) be)) :: (ints .u8 (digs 88 (sumV am ae (-bm) be))))) [],
                AV.ren [] (AV.agg ((AV.bool (sumB am ae (-bm) be)) :: (ints .u8 (digs 88 (sumV am ae (-bm) be))))) = AV.agg ((AV.bool (sumB am ae (-bm) be)) :: (ints .u8 (digs 88 (sumV am ae (-bm) be)))),
                AObj.cells (zeroCellsA Try.prog 50) 50 = AObj.cells ((AV.bool false) :: (ints .u8 (List.replicate 88 0))) 50,
                ((AV.bool (sumB am ae (-bm) be)) :: (ints .u8 (digs 88 (sumV am ae (-bm) be))) : List AV).length = 89,
                0 + 89 ≤ List.length ((AV.bool false) :: (ints .u8 (List.replicate 88 0))),
                AObj.cells (List.take 0 ((AV.bool false) :: (ints .u8 (List.replicate 88 0))) ++ ((AV.bool (sumB am ae (-bm) be)) :: (ints .u8 (digs 88 (sumV am ae (-bm) be)))) ++ List.drop (0 + 89) ((AV.bool false) :: (ints .u8 (List.replicate 88 0)))) 50 = AObj.cells ((AV.bool (sumB am ae (-bm) be)) :: (ints .u8 (digs 88 (sumV am ae (-bm) be)))) 50,
                (0 : Nat) ≤ 88,
                (88 : Nat) ≤ 88,
                (88 : Nat) ≤ 88,
                AV.slice 2 (if 88 = 0 then 1 else 1 + 0 * 1) (88 - 0) (88 - 0) = AV.slice 2 1 88 88,
                [AV.slice 2 1 88 88] = renL [2] [AV.slice 0 1 ((digs 88 (sumV am ae (-bm) be)).length) 88],
                Meets Try.prog 59 [AV.slice 0 1 ((digs 88 (sumV am ae (-bm) be)).length) 88] [AObj.ro 1 (ints .u8 (digs 88 (sumV am ae (-bm) be)))] (AV.bool (decide (val (digs 88 (sumV am ae (-bm) be)) = 0))) [AObj.ro 1 (ints .u8 (digs 88 (sumV am ae (-bm) be)))],
                Fits (AObj.cells ((AV.bool (sumB am ae (-bm) be)) :: (ints .u8 (digs 88 (sumV am ae (-bm) be)))) 50) (AObj.ren [2] (AObj.ro 1 (ints .u8 (digs 88 (sumV am ae (-bm) be))))),
                AV.ren [2] (AV.bool (decide (val (digs 88 (sumV am ae (-bm) be)) = 0))) = AV.bool false,
                updOf [2] [AObj.cells ((AV.bool (sumB am ae (-bm) be)) :: (ints .u8 (digs 88 (sumV am ae (-bm) be)))) 50] [AObj.ro 1 (ints .u8 (digs 88 (sumV am ae (-bm) be)))] [AObj.ro 1 (ints .u8 (digs 88 (sumV am ae (-bm) be)))] ++ List.map (fun x => x.ren [2]) (List.drop 1 [AObj.ro 1 (ints .u8 (digs 88 (sumV am ae (-bm) be)))]) = [AObj.cells ((AV.bool (sumB am ae (-bm) be)) :: (ints .u8 (digs 88 (sumV am ae (-bm) be)))) 50],
                0 ≤ 0,
                ((AV.bool (sumB am ae (-bm) be)) :: (ints .u8 (digs 88 (sumV am ae (-bm) be))) : List AV)[0 - 0]? = some (AV.bool false)],
              .ret, ⟨[some (AV.agg [AV.int .i64 am, AV.int .i64 ae]), some (AV.agg [AV.int .i64 bm, AV.int .i64 be]), some (AV.ptr 0 0), some (AV.ptr 1 0), some (AV.int .i64 1), some (AV.ptr 2 0), some (AV.agg [AV.int .i64 am, AV.int .i64 ae]), some (AV.bool true), some (AV.bool false), some (AV.bool false), some (AV.agg [AV.int .i64 bm, AV.int .i64 be]), some (AV.bool true), some (AV.bool false), some (AV.bool false), some (AV.agg [AV.int .i64 am, AV.int .i64 ae]), some (AV.agg [AV.int .i64 bm, AV.int .i64 be]), some (AV.agg [AV.int .i64 am, AV.int .i64 ae, AV.int .i64 bm, AV.int .i64 be]), some (AV.agg ((AV.bool (sumB am ae (-bm) be)) :: (ints .u8 (digs 88 (sumV am ae (-bm) be))))), some (AV.bool false), some (AV.ptr 2 1), some (AV.slice 2 1 88 88), some (AV.bool false), some (AV.bool false), some (AV.ptr 2 0), some (AV.bool false)], [some (AObj.cells [AV.int .i64 am, AV.int .i64 ae] 23), some (AObj.cells [AV.int .i64 bm, AV.int .i64 be] 23), some (AObj.cells ((AV.bool (sumB am ae (-bm) be)) :: (ints .u8 (digs 88 (sumV am ae (-bm) be)))) 50)]⟩, []⟩)
            (ob := [AV.int .i64 1 = AV.int .i64 (cmpR am ae bm be)])
            Try.func27 (by kernel_rfl) Try.call27 (by kernel_rfl)
            ⟨Nat.zero_le _, Nat.le_of_ble_eq_true rfl, rfl, rfl, right_meets am ae, boolT c1, rfl, Nat.zero_le _, Nat.le_of_ble_eq_true rfl, rfl, rfl, right_meets bm be, boolT c2, rfl, Nat.zero_le _, Nat.le_of_ble_eq_true rfl, rfl, Nat.zero_le _, Nat.le_of_ble_eq_true rfl, rfl, rfl, Nat.le_of_ble_eq_true (by kernel_rfl), rfl, Nat.le_of_ble_eq_true (by kernel_rfl), by kernel_rfl, rfl, difference_meets am ae bm be (right_bounds c1).1 (right_bounds c1).2 (right_bounds c2).1 (right_bounds c2).2, by simp only [renL, AV.ren, renL_ints, renL_u8s, renL_append], by kernel_rfl, (by simp only [List.length_cons, List.length_nil, List.length_append, ints_length, u8s_length, List.length_replicate, List.length_set, List.length_map, digs_length] <;> omega), (by simp only [List.length_cons, List.length_nil, List.length_append, ints_length, u8s_length, List.length_replicate, List.length_set, List.length_map, digs_length] <;> omega), store_whole (by simp only [List.length_cons, List.length_nil, List.length_append, ints_length, u8s_length, List.length_replicate, List.length_set, List.length_map, digs_length] <;> omega), by omega, by omega, by omega, by kernel_rfl, by simp only [renL, AV.ren, List.length_drop, digs_length]; rfl, none_meets (digs 88 (sumV am ae (-bm) be)) 1 88 (by simp only [List.length_drop, digs_length] <;> omega) (by simp only [List.length_drop, digs_length] <;> omega) (digs_dig _ _), fits_fig (i := 0) _ rfl (by rw [List.drop_zero, List.take_length]), bF c3, rfl, Nat.zero_le _, atF (rfl) c4, trivial⟩
            (.inl rfl) (by kernel_rfl) ⟨cmp_more c1 c2 c3 c4, trivial⟩
    · exact meets_of_exec (fn := Try.f27) 3 [.reg [(0, {nm := [0]}), (1, {nm := [1]})], .reg [(0, {val := some (AV.agg [AV.int .i64 am, AV.int .i64 ae])}), (1, {call := some ⟨[], [AV.agg [AV.int .i64 am, AV.int .i64 ae]], [], AV.bool (rightB am ae), []⟩, val := some (AV.bool true)}), (2, {val := some (AV.bool false)}), (4, {val := some (AV.agg [AV.int .i64 bm, AV.int .i64 be])}), (5, {call := some ⟨[], [AV.agg [AV.int .i64 bm, AV.int .i64 be]], [], AV.bool (rightB bm be), []⟩, val := some (AV.bool false)}), (6, {val := some (AV.bool true)})], .reg []] [{}]
        (r := ⟨[0 ≤ 0,
            0 - 0 + 2 ≤ List.length [AV.int .i64 am, AV.int .i64 ae],
            List.take 2 (List.drop (0 - 0) [AV.int .i64 am, AV.int .i64 ae]) = [AV.int .i64 am, AV.int .i64 ae],
            [AV.agg [AV.int .i64 am, AV.int .i64 ae]] = renL [] [AV.agg [AV.int .i64 am, AV.int .i64 ae]],
            Meets Try.prog 30 [AV.agg [AV.int .i64 am, AV.int .i64 ae]] [] (AV.bool (rightB am ae)) [],
            AV.ren [] (AV.bool (rightB am ae)) = AV.bool true,
            AV.bool (!true) = AV.bool false,
            0 ≤ 0,
            0 - 0 + 2 ≤ List.length [AV.int .i64 bm, AV.int .i64 be],
            List.take 2 (List.drop (0 - 0) [AV.int .i64 bm, AV.int .i64 be]) = [AV.int .i64 bm, AV.int .i64 be],
            [AV.agg [AV.int .i64 bm, AV.int .i64 be]] = renL [] [AV.agg [AV.int .i64 bm, AV.int .i64 be]],
            Meets Try.prog 30 [AV.agg [AV.int .i64 bm, AV.int .i64 be]] [] (AV.bool (rightB bm be)) [],
            AV.ren [] (AV.bool (rightB bm be)) = AV.bool false,
            AV.bool (!false) = AV.bool true],
          .ret, ⟨[some (AV.agg [AV.int .i64 am, AV.int .i64 ae]), some (AV.agg [AV.int .i64 bm, AV.int .i64 be]), some (AV.ptr 0 0), some (AV.ptr 1 0), some (AV.int .i64 0), none, some (AV.agg [AV.int .i64 am, AV.int .i64 ae]), some (AV.bool true), some (AV.bool false), some (AV.bool false), some (AV.agg [AV.int .i64 bm, AV.int .i64 be]), some (AV.bool false), some (AV.bool true), some (AV.bool true), none, none, none, none, none, none, none, none, none, none, none], [some (AObj.cells [AV.int .i64 am, AV.int .i64 ae] 23), some (AObj.cells [AV.int .i64 bm, AV.int .i64 be] 23), none]⟩, []⟩)
        (ob := [AV.int .i64 0 = AV.int .i64 (cmpR am ae bm be)])
        Try.func27 (by kernel_rfl) Try.call27 (by kernel_rfl)
        ⟨Nat.zero_le _, Nat.le_of_ble_eq_true rfl, rfl, rfl, right_meets am ae, boolT c1, rfl, Nat.zero_le _, Nat.le_of_ble_eq_true rfl, rfl, rfl, right_meets bm be, boolF c2, rfl, trivial⟩
        (.inl rfl) (by kernel_rfl) ⟨by first | exact cmp_zero c1 c2 c3 | (unfold cmpR; simp [*]), trivial⟩
  · exact meets_of_exec (fn := Try.f27) 3 [.reg [(0, {nm := [0]}), (1, {nm := [1]})], .reg [(0, {val := some (AV.agg [AV.int .i64 am, AV.int .i64 ae])}), (1, {call := some ⟨[], [AV.agg [AV.int .i64 am, AV.int .i64 ae]], [], AV.bool (rightB am ae), []⟩, val := some (AV.bool false)}), (2, {val := some (AV.bool true)})], .reg []] [{}]
      (r := ⟨[0 ≤ 0,
          0 - 0 + 2 ≤ List.length [AV.int .i64 am, AV.int .i64 ae],
          List.take 2 (List.drop (0 - 0) [AV.int .i64 am, AV.int .i64 ae]) = [AV.int .i64 am, AV.int .i64 ae],
          [AV.agg [AV.int .i64 am, AV.int .i64 ae]] = renL [] [AV.agg [AV.int .i64 am, AV.int .i64 ae]],
          Meets Try.prog 30 [AV.agg [AV.int .i64 am, AV.int .i64 ae]] [] (AV.bool (rightB am ae)) [],
          AV.ren [] (AV.bool (rightB am ae)) = AV.bool false,
          AV.bool (!false) = AV.bool true],
        .ret, ⟨[some (AV.agg [AV.int .i64 am, AV.int .i64 ae]), some (AV.agg [AV.int .i64 bm, AV.int .i64 be]), some (AV.ptr 0 0), some (AV.ptr 1 0), some (AV.int .i64 0), none, some (AV.agg [AV.int .i64 am, AV.int .i64 ae]), some (AV.bool false), some (AV.bool true), some (AV.bool true), some (AV.tuple []), some (AV.tuple []), some (AV.tuple []), some (AV.bool true), none, none, none, none, none, none, none, none, none, none, none], [some (AObj.cells [AV.int .i64 am, AV.int .i64 ae] 23), some (AObj.cells [AV.int .i64 bm, AV.int .i64 be] 23), none]⟩, []⟩)
      (ob := [AV.int .i64 0 = AV.int .i64 (cmpR am ae bm be)])
      Try.func27 (by kernel_rfl) Try.call27 (by kernel_rfl)
      ⟨Nat.zero_le _, Nat.le_of_ble_eq_true rfl, rfl, rfl, right_meets am ae, boolF c1, rfl, trivial⟩
      (.inl rfl) (by kernel_rfl) ⟨by first | exact cmp_zero c1 c2 c3 | (unfold cmpR; simp [*]), trivial⟩

def floorR (m e : Int) : Int × Int := if rightB m e = true ∧ aV m e / 10 ^ 40 ≤ 999999999999999 then (sV m e / 10 ^ 40, 0) else (0, 10)
theorem val_take_digs {X : Int} {w : Nat} (hw : w ≤ 88) (hX : 0 ≤ X ∧ X < 10 ^ 88) : val ((digs 88 X).take w) = X / 10 ^ (88 - w) := by
  rw [digs_take _ hw, val_digs _ _ (Int.ediv_nonneg hX.1 (Int.le_of_lt (pow_pos' _)))]
  refine Int.ediv_lt_of_lt_mul (pow_pos' _) ?_
  rw [← Int.pow_add, show w + (88 - w) = 88 by omega]; exact hX.2
theorem val_drop_digs {X : Int} {w : Nat} (hw : w ≤ 88) : val ((digs 88 X).drop w) = X % 10 ^ (88 - w) := by
  rw [digs_drop _ hw, val_digs_mod]
theorem aV88 {m e : Int} (h : rightB m e = true) : 0 ≤ aV m e ∧ aV m e < 10 ^ 88 := by
  have h1 := right_bounds h
  have h2 := aV_bounds h1.1 (e := e) (by omega)
  have h73 : (10 : Int) ^ 73 ≤ 10 ^ 88 := by decide
  omega
theorem floor_over {m e : Int} (c1 : rightB m e = true) (c2 : ¬ val ((digs 88 (aV m e)).take 48) ≤ 999999999999999) : AV.tuple [AV.int .i64 0, AV.int .i64 10] = AV.tuple [AV.int .i64 (floorR m e).1, AV.int .i64 (floorR m e).2] := by
  rw [val_take_digs (by decide) (aV88 c1)] at c2
  rw [floorR, if_neg (fun h => c2 h.2)]
theorem floor_plus {m e : Int} (c1 : rightB m e = true) (c2 : val ((digs 88 (aV m e)).take 48) ≤ 999999999999999) (c3 : ¬ decide (m < 0) = true) : AV.tuple [AV.int .i64 (val ((digs 88 (aV m e)).take 48)), AV.int .i64 0] = AV.tuple [AV.int .i64 (floorR m e).1, AV.int .i64 (floorR m e).2] := by
  rw [val_take_digs (by decide) (aV88 c1)] at c2 ⊢
  rw [floorR, if_pos ⟨c1, c2⟩, sV_pos (by simpa using c3)]
theorem floor_even {m e : Int} (c1 : rightB m e = true) (c2 : val ((digs 88 (aV m e)).take 48) ≤ 999999999999999) (c3 : decide (m < 0) = true) (c4 : val ((digs 88 (aV m e)).drop 48) = 0) : AV.tuple [AV.int .i64 (-(val ((digs 88 (aV m e)).take 48))), AV.int .i64 0] = AV.tuple [AV.int .i64 (floorR m e).1, AV.int .i64 (floorR m e).2] := by
  rw [val_take_digs (by decide) (aV88 c1)] at c2 ⊢
  rw [val_drop_digs (by decide)] at c4
  rw [floorR, if_pos ⟨c1, c2⟩, sV_neg (by simpa using c3)]
  simp only [show (88 - 48 : Nat) = 40 by decide] at *
  have : -(aV m e / 10 ^ 40) = -aV m e / 10 ^ 40 := by
    generalize aV m e = x at *
    have hp : (10 : Int) ^ 40 = 10000000000000000000000000000000000000000 := by decide
    rw [hp] at c4 ⊢; omega
  rw [this]
theorem floor_down {m e : Int} (c1 : rightB m e = true) (c2 : val ((digs 88 (aV m e)).take 48) ≤ 999999999999999) (c3 : decide (m < 0) = true) (c4 : ¬ val ((digs 88 (aV m e)).drop 48) = 0) : AV.tuple [AV.int .i64 (-(val ((digs 88 (aV m e)).take 48)) - 1), AV.int .i64 0] = AV.tuple [AV.int .i64 (floorR m e).1, AV.int .i64 (floorR m e).2] := by
  rw [val_take_digs (by decide) (aV88 c1)] at c2 ⊢
  rw [val_drop_digs (by decide)] at c4
  rw [floorR, if_pos ⟨c1, c2⟩, sV_neg (by simpa using c3)]
  simp only [show (88 - 48 : Nat) = 40 by decide] at *
  have : -(aV m e / 10 ^ 40) - 1 = -aV m e / 10 ^ 40 := by
    generalize aV m e = x at *
    have hp : (10 : Int) ^ 40 = 10000000000000000000000000000000000000000 := by decide
    rw [hp] at c4 ⊢; omega
  rw [this]

theorem floor_meets (am ae : Int) : Meets Try.prog 26 [AV.agg [AV.int .i64 am, AV.int .i64 ae]] [] (AV.tuple [AV.int .i64 ((floorR am ae).1), AV.int .i64 ((floorR am ae).2)]) [] := by
  have hb0 := (val_bounds _ (Dig.take (digs_dig 88 (aV am ae)) 48)).1
  by_cases c1 : rightB am ae = true
  · by_cases c2 : val ((digs 88 (aV am ae)).take 48) ≤ 999999999999999
    · by_cases c3 : decide (am < 0) = true
      · by_cases c4 : val ((digs 88 (aV am ae)).drop 48) = 0
        · exact meets_of_exec (fn := Try.f26) 2 [.reg [(0, {nm := [0]})], .reg [(0, {val := some (AV.agg [AV.int .i64 am, AV.int .i64 ae])}), (1, {call := some ⟨[], [AV.agg [AV.int .i64 am, AV.int .i64 ae]], [], AV.bool (rightB am ae), []⟩, val := some (AV.bool true)}), (2, {val := some (AV.bool false)})], .reg [(0, {val := some (AV.agg [AV.int .i64 am, AV.int .i64 ae])}), (1, {call := some ⟨[], [AV.agg [AV.int .i64 am, AV.int .i64 ae]], [], AV.agg ((AV.bool (decide (am < 0))) :: (ints .u8 (digs 88 (aV am ae)))), []⟩, val := some (AV.agg ((AV.bool (decide (am < 0))) :: (ints .u8 (digs 88 (aV am ae)))))}), (2, {nm := [1], obj := some [AObj.cells ((AV.bool false) :: (ints .u8 (List.replicate 88 0))) 50]}), (3, {obj := some [AObj.cells ((AV.bool (decide (am < 0))) :: (ints .u8 (digs 88 (aV am ae)))) 50]})], .reg [(0, {call := some ⟨[1], [AV.ptr 0 0, AV.int .i64 0], [AObj.cells ((AV.bool (decide (am < 0))) :: (ints .u8 (digs 88 (aV am ae)))) 50], AV.tuple [AV.int .i64 (capN (val ((digs 88 (aV am ae)).take 48))), AV.bool (capB (val ((digs 88 (aV am ae)).take 48)))], [AObj.cells ((AV.bool (decide (am < 0))) :: (ints .u8 (digs 88 (aV am ae)))) 50]⟩, val := some (AV.tuple [AV.int .i64 (val ((digs 88 (aV am ae)).take 48)), AV.bool true]), obj := some [AObj.cells ((AV.bool (decide (am < 0))) :: (ints .u8 (digs 88 (aV am ae)))) 50]})], .reg [(1, {val := some (AV.bool false)})], .reg [(1, {val := some (AV.bool true)}), (2, {val := some (AV.bool false)})], .reg [(1, {val := some (AV.slice 1 49 40 40)}), (2, {call := some ⟨[1], [AV.slice 0 49 (((digs 88 (aV am ae)).drop 48).length) 40], [AObj.ro 49 (ints .u8 ((digs 88 (aV am ae)).drop 48))], AV.bool (decide (val ((digs 88 (aV am ae)).drop 48) = 0)), [AObj.ro 49 (ints .u8 ((digs 88 (aV am ae)).drop 48))]⟩, val := some (AV.bool true), obj := some [AObj.cells ((AV.bool (decide (am < 0))) :: (ints .u8 (digs 88 (aV am ae)))) 50]})], .reg [(1, {val := some (AV.int .i64 (-(val ((digs 88 (aV am ae)).take 48))))})]] [{}, {}]
            (r := ⟨[0 ≤ 0,
                0 - 0 + 2 ≤ List.length [AV.int .i64 am, AV.int .i64 ae],
                List.take 2 (List.drop (0 - 0) [AV.int .i64 am, AV.int .i64 ae]) = [AV.int .i64 am, AV.int .i64 ae],
                [AV.agg [AV.int .i64 am, AV.int .i64 ae]] = renL [] [AV.agg [AV.int .i64 am, AV.int .i64 ae]],
                Meets Try.prog 30 [AV.agg [AV.int .i64 am, AV.int .i64 ae]] [] (AV.bool (rightB am ae)) [],
                AV.ren [] (AV.bool (rightB am ae)) = AV.bool true,
                AV.bool (!true) = AV.bool false,
                0 ≤ 0,
                0 - 0 + 2 ≤ List.length [AV.int .i64 am, AV.int .i64 ae],
                List.take 2 (List.drop (0 - 0) [AV.int .i64 am, AV.int .i64 ae]) = [AV.int .i64 am, AV.int .i64 ae],
                [AV.agg [AV.int .i64 am, AV.int .i64 ae]] = renL [] [AV.agg [AV.int .i64 am, AV.int .i64 ae]],
                Meets Try.prog 33 [AV.agg [AV.int .i64 am, AV.int .i64 ae]] [] (AV.agg ((AV.bool (decide (am < 0))) :: (ints .u8 (digs 88 (aV am ae))))) [],
                AV.ren [] (AV.agg ((AV.bool (decide (am < 0))) :: (ints .u8 (digs 88 (aV am ae))))) = AV.agg ((AV.bool (decide (am < 0))) :: (ints .u8 (digs 88 (aV am ae)))),
                AObj.cells (zeroCellsA Try.prog 50) 50 = AObj.cells ((AV.bool false) :: (ints .u8 (List.replicate 88 0))) 50,
                ((AV.bool (decide (am < 0))) :: (ints .u8 (digs 88 (aV am ae))) : List AV).length = 89,
                0 + 89 ≤ List.length ((AV.bool false) :: (ints .u8 (List.replicate 88 0))),
                AObj.cells (List.take 0 ((AV.bool false) :: (ints .u8 (List.replicate 88 0))) ++ ((AV.bool (decide (am < 0))) :: (ints .u8 (digs 88 (aV am ae)))) ++ List.drop (0 + 89) ((AV.bool false) :: (ints .u8 (List.replicate 88 0)))) 50 = AObj.cells ((AV.bool (decide (am < 0))) :: (ints .u8 (digs 88 (aV am ae)))) 50,
                [AV.ptr 1 0, AV.int .i64 0] = renL [1] [AV.ptr 0 0, AV.int .i64 0],
                Meets Try.prog 58 [AV.ptr 0 0, AV.int .i64 0] [AObj.cells ((AV.bool (decide (am < 0))) :: (ints .u8 (digs 88 (aV am ae)))) 50] (AV.tuple [AV.int .i64 (capN (val ((digs 88 (aV am ae)).take 48))), AV.bool (capB (val ((digs 88 (aV am ae)).take 48)))]) [AObj.cells ((AV.bool (decide (am < 0))) :: (ints .u8 (digs 88 (aV am ae)))) 50],
                Fits (AObj.cells ((AV.bool (decide (am < 0))) :: (ints .u8 (digs 88 (aV am ae)))) 50) (AObj.ren [1] (AObj.cells ((AV.bool (decide (am < 0))) :: (ints .u8 (digs 88 (aV am ae)))) 50)),
                AV.ren [1] (AV.tuple [AV.int .i64 (capN (val ((digs 88 (aV am ae)).take 48))), AV.bool (capB (val ((digs 88 (aV am ae)).take 48)))]) = AV.tuple [AV.int .i64 (val ((digs 88 (aV am ae)).take 48)), AV.bool true],
                updOf [1] [AObj.cells ((AV.bool (decide (am < 0))) :: (ints .u8 (digs 88 (aV am ae)))) 50] [AObj.cells ((AV.bool (decide (am < 0))) :: (ints .u8 (digs 88 (aV am ae)))) 50] [AObj.cells ((AV.bool (decide (am < 0))) :: (ints .u8 (digs 88 (aV am ae)))) 50] ++ List.map (fun x => x.ren [1]) (List.drop 1 [AObj.cells ((AV.bool (decide (am < 0))) :: (ints .u8 (digs 88 (aV am ae)))) 50]) = [AObj.cells ((AV.bool (decide (am < 0))) :: (ints .u8 (digs 88 (aV am ae)))) 50],
                AV.bool (!true) = AV.bool false,
                0 ≤ 0,
                ((AV.bool (decide (am < 0))) :: (ints .u8 (digs 88 (aV am ae))) : List AV)[0 - 0]? = some (AV.bool true),
                AV.bool (!true) = AV.bool false,
                0 ≤ (48 : Int),
                ((Int.toNat (48 : Int)) : Nat) ≤ 88,
                (88 : Nat) ≤ 88,
                (88 : Nat) ≤ 88,
                AV.slice 1 (if 88 = (Int.toNat (48 : Int)) then 1 else 1 + (Int.toNat (48 : Int)) * 1) (88 - (Int.toNat (48 : Int))) (88 - (Int.toNat (48 : Int))) = AV.slice 1 49 40 40,
                [AV.slice 1 49 40 40] = renL [1] [AV.slice 0 49 (((digs 88 (aV am ae)).drop 48).length) 40],
                Meets Try.prog 59 [AV.slice 0 49 (((digs 88 (aV am ae)).drop 48).length) 40] [AObj.ro 49 (ints .u8 ((digs 88 (aV am ae)).drop 48))] (AV.bool (decide (val ((digs 88 (aV am ae)).drop 48) = 0))) [AObj.ro 49 (ints .u8 ((digs 88 (aV am ae)).drop 48))],
                Fits (AObj.cells ((AV.bool (decide (am < 0))) :: (ints .u8 (digs 88 (aV am ae)))) 50) (AObj.ren [1] (AObj.ro 49 (ints .u8 ((digs 88 (aV am ae)).drop 48)))),
                AV.ren [1] (AV.bool (decide (val ((digs 88 (aV am ae)).drop 48) = 0))) = AV.bool true,
                updOf [1] [AObj.cells ((AV.bool (decide (am < 0))) :: (ints .u8 (digs 88 (aV am ae)))) 50] [AObj.ro 49 (ints .u8 ((digs 88 (aV am ae)).drop 48))] [AObj.ro 49 (ints .u8 ((digs 88 (aV am ae)).drop 48))] ++ List.map (fun x => x.ren [1]) (List.drop 1 [AObj.ro 49 (ints .u8 ((digs 88 (aV am ae)).drop 48))]) = [AObj.cells ((AV.bool (decide (am < 0))) :: (ints .u8 (digs 88 (aV am ae)))) 50],
                AV.int .i64 (IntKind.i64.wrap (0 - (val ((digs 88 (aV am ae)).take 48)))) = AV.int .i64 (-(val ((digs 88 (aV am ae)).take 48)))],
              .ret, ⟨[some (AV.agg [AV.int .i64 am, AV.int .i64 ae]), some (AV.ptr 0 0), some (AV.int .i64 (-(val ((digs 88 (aV am ae)).take 48)))), some (AV.int .i64 0), some (AV.ptr 1 0), some (AV.int .i64 (val ((digs 88 (aV am ae)).take 48))), some (AV.bool true), some (AV.agg [AV.int .i64 am, AV.int .i64 ae]), some (AV.bool true), some (AV.bool false), some (AV.agg [AV.int .i64 am, AV.int .i64 ae]), some (AV.agg ((AV.bool (decide (am < 0))) :: (ints .u8 (digs 88 (aV am ae))))), some (AV.tuple [AV.int .i64 (val ((digs 88 (aV am ae)).take 48)), AV.bool true]), some (AV.tuple [AV.int .i64 (val ((digs 88 (aV am ae)).take 48)), AV.bool true]), some (AV.int .i64 (val ((digs 88 (aV am ae)).take 48))), some (AV.bool true), some (AV.bool false), some (AV.bool true), some (AV.bool false), some (AV.bool false), some (AV.ptr 1 0), some (AV.bool true), some (AV.bool false), none, some (AV.bool true), some (AV.ptr 1 1), some (AV.slice 1 49 40 40), some (AV.bool true), some (AV.int .i64 (val ((digs 88 (aV am ae)).take 48))), some (AV.int .i64 (-(val ((digs 88 (aV am ae)).take 48)))), none, none, none], [some (AObj.cells [AV.int .i64 am, AV.int .i64 ae] 23), some (AObj.cells ((AV.bool (decide (am < 0))) :: (ints .u8 (digs 88 (aV am ae)))) 50)]⟩, []⟩)
            (ob := [AV.tuple [AV.int .i64 (-(val ((digs 88 (aV am ae)).take 48))), AV.int .i64 0] = AV.tuple [AV.int .i64 ((floorR am ae).1), AV.int .i64 ((floorR am ae).2)],
                Avoid (fun n => decide (0 ≤ n)) (AV.tuple [AV.int .i64 ((floorR am ae).1), AV.int .i64 ((floorR am ae).2)])])
            Try.func26 (by kernel_rfl) Try.call26 (by kernel_rfl)
            ⟨Nat.zero_le _, Nat.le_of_ble_eq_true rfl, rfl, rfl, right_meets am ae, boolT c1, rfl, Nat.zero_le _, Nat.le_of_ble_eq_true rfl, rfl, rfl, lay_meets am ae _ (by have := right_bounds c1; omega) (by have := right_bounds c1; omega) (digs_aV _ _), by simp only [renL, AV.ren, renL_ints, renL_u8s, renL_append], by kernel_rfl, (by simp only [List.length_cons, List.length_nil, List.length_append, ints_length, u8s_length, List.length_replicate, List.length_set, List.length_map, digs_length] <;> omega), (by simp only [List.length_cons, List.length_nil, List.length_append, ints_length, u8s_length, List.length_replicate, List.length_set, List.length_map, digs_length] <;> omega), store_whole (by simp only [List.length_cons, List.length_nil, List.length_append, ints_length, u8s_length, List.length_replicate, List.length_set, List.length_map, digs_length] <;> omega), rfl, whole_meets (decide (am < 0)) (digs 88 (aV am ae)) 0 48 (digs_length _ _) (digs_dig _ _) (by omega) (by decide), Fits.of_eq (by simp only [AObj.ren, renL, AV.ren, renL_ints, renL_u8s, renL_append]), cap_pos c2, by simp [updOf, AObj.owned, AObj.ren, renL, AV.ren, renL_ints, renL_u8s, renL_append], rfl, Nat.zero_le _, atT (rfl) c3, rfl, by omega, by omega, by omega, by omega, by kernel_rfl, by simp only [renL, AV.ren, List.length_drop, digs_length]; rfl, none_meets ((digs 88 (aV am ae)).drop 48) 49 40 (by simp only [List.length_drop, digs_length] <;> omega) (by simp only [List.length_drop, digs_length] <;> omega) (Dig.drop (digs_dig _ _) _), fits_fig (i := 48) _ rfl List.take_length, bT c4, rfl, wI (by omega), trivial⟩
            (.inl rfl) (by kernel_rfl) ⟨floor_even c1 c2 c3 c4, Avoid.tuple (AvoidL.cons (Avoid.int _ _ _) (AvoidL.cons (Avoid.int _ _ _) (AvoidL.nil _))), trivial⟩
        · exact meets_of_exec (fn := Try.f26) 2 [.reg [(0, {nm := [0]})], .reg [(0, {val := some (AV.agg [AV.int .i64 am, AV.int .i64 ae])}), (1, {call := some ⟨[], [AV.agg [AV.int .i64 am, AV.int .i64 ae]], [], AV.bool (rightB am ae), []⟩, val := some (AV.bool true)}), (2, {val := some (AV.bool false)})], .reg [(0, {val := some (AV.agg [AV.int .i64 am, AV.int .i64 ae])}), (1, {call := some ⟨[], [AV.agg [AV.int .i64 am, AV.int .i64 ae]], [], AV.agg ((AV.bool (decide (am < 0))) :: (ints .u8 (digs 88 (aV am ae)))), []⟩, val := some (AV.agg ((AV.bool (decide (am < 0))) :: (ints .u8 (digs 88 (aV am ae)))))}), (2, {nm := [1], obj := some [AObj.cells ((AV.bool false) :: (ints .u8 (List.replicate 88 0))) 50]}), (3, {obj := some [AObj.cells ((AV.bool (decide (am < 0))) :: (ints .u8 (digs 88 (aV am ae)))) 50]})], .reg [(0, {call := some ⟨[1], [AV.ptr 0 0, AV.int .i64 0], [AObj.cells ((AV.bool (decide (am < 0))) :: (ints .u8 (digs 88 (aV am ae)))) 50], AV.tuple [AV.int .i64 (capN (val ((digs 88 (aV am ae)).take 48))), AV.bool (capB (val ((digs 88 (aV am ae)).take 48)))], [AObj.cells ((AV.bool (decide (am < 0))) :: (ints .u8 (digs 88 (aV am ae)))) 50]⟩, val := some (AV.tuple [AV.int .i64 (val ((digs 88 (aV am ae)).take 48)), AV.bool true]), obj := some [AObj.cells ((AV.bool (decide (am < 0))) :: (ints .u8 (digs 88 (aV am ae)))) 50]})], .reg [(1, {val := some (AV.bool false)})], .reg [(1, {val := some (AV.bool true)}), (2, {val := some (AV.bool false)})], .reg [(1, {val := some (AV.slice 1 49 40 40)}), (2, {call := some ⟨[1], [AV.slice 0 49 (((digs 88 (aV am ae)).drop 48).length) 40], [AObj.ro 49 (ints .u8 ((digs 88 (aV am ae)).drop 48))], AV.bool (decide (val ((digs 88 (aV am ae)).drop 48) = 0)), [AObj.ro 49 (ints .u8 ((digs 88 (aV am ae)).drop 48))]⟩, val := some (AV.bool false), obj := some [AObj.cells ((AV.bool (decide (am < 0))) :: (ints .u8 (digs 88 (aV am ae)))) 50]})], .reg [(1, {val := some (AV.int .i64 (-(val ((digs 88 (aV am ae)).take 48))))}), (2, {val := some (AV.int .i64 ((-(val ((digs 88 (aV am ae)).take 48))) - 1))})]] [{}, {}]
            (r := ⟨[0 ≤ 0,
                0 - 0 + 2 ≤ List.length [AV.int .i64 am, AV.int .i64 ae],
                List.take 2 (List.drop (0 - 0) [AV.int .i64 am, AV.int .i64 ae]) = [AV.int .i64 am, AV.int .i64 ae],
                [AV.agg [AV.int .i64 am, AV.int .i64 ae]] = renL [] [AV.agg [AV.int .i64 am, AV.int .i64 ae]],
                Meets Try.prog 30 [AV.agg [AV.int .i64 am, AV.int .i64 ae]] [] (AV.bool (rightB am ae)) [],
                AV.ren [] (AV.bool (rightB am ae)) = AV.bool true,
                AV.bool (!true) = AV.bool false,
                0 ≤ 0,
                0 - 0 + 2 ≤ List.length [AV.int .i64 am, AV.int .i64 ae],
                List.take 2 (List.drop (0 - 0) [AV.int .i64 am, AV.int .i64 ae]) = [AV.int .i64 am, AV.int .i64 ae],
                [AV.agg [AV.int .i64 am, AV.int .i64 ae]] = renL [] [AV.agg [AV.int .i64 am, AV.int .i64 ae]],
                Meets Try.prog 33 [AV.agg [AV.int .i64 am, AV.int .i64 ae]] [] (AV.agg ((AV.bool (decide (am < 0))) :: (ints .u8 (digs 88 (aV am ae))))) [],
                AV.ren [] (AV.agg ((AV.bool (decide (am < 0))) :: (ints .u8 (digs 88 (aV am ae))))) = AV.agg ((AV.bool (decide (am < 0))) :: (ints .u8 (digs 88 (aV am ae)))),
                AObj.cells (zeroCellsA Try.prog 50) 50 = AObj.cells ((AV.bool false) :: (ints .u8 (List.replicate 88 0))) 50,
                ((AV.bool (decide (am < 0))) :: (ints .u8 (digs 88 (aV am ae))) : List AV).length = 89,
                0 + 89 ≤ List.length ((AV.bool false) :: (ints .u8 (List.replicate 88 0))),
                AObj.cells (List.take 0 ((AV.bool false) :: (ints .u8 (List.replicate 88 0))) ++ ((AV.bool (decide (am < 0))) :: (ints .u8 (digs 88 (aV am ae)))) ++ List.drop (0 + 89) ((AV.bool false) :: (ints .u8 (List.replicate 88 0)))) 50 = AObj.cells ((AV.bool (decide (am < 0))) :: (ints .u8 (digs 88 (aV am ae)))) 50,
                [AV.ptr 1 0, AV.int .i64 0] = renL [1] [AV.ptr 0 0, AV.int .i64 0],
                Meets Try.prog 58 [AV.ptr 0 0, AV.int .i64 0] [AObj.cells ((AV.bool (decide (am < 0))) :: (ints .u8 (digs 88 (aV am ae)))) 50] (AV.tuple [AV.int .i64 (capN (val ((digs 88 (aV am ae)).take 48))), AV.bool (capB (val ((digs 88 (aV am ae)).take 48)))]) [AObj.cells ((AV.bool (decide (am < 0))) :: (ints .u8 (digs 88 (aV am ae)))) 50],
                Fits (AObj.cells ((AV.bool (decide (am < 0))) :: (ints .u8 (digs 88 (aV am ae)))) 50) (AObj.ren [1] (AObj.cells ((AV.bool (decide (am < 0))) :: (ints .u8 (digs 88 (aV am ae)))) 50)),
                AV.ren [1] (AV.tuple [AV.int .i64 (capN (val ((digs 88 (aV am ae)).take 48))), AV.bool (capB (val ((digs 88 (aV am ae)).take 48)))]) = AV.tuple [AV.int .i64 (val ((digs 88 (aV am ae)).take 48)), AV.bool true],
                updOf [1] [AObj.cells ((AV.bool (decide (am < 0))) :: (ints .u8 (digs 88 (aV am ae)))) 50] [AObj.cells ((AV.bool (decide (am < 0))) :: (ints .u8 (digs 88 (aV am ae)))) 50] [AObj.cells ((AV.bool (decide (am < 0))) :: (ints .u8 (digs 88 (aV am ae)))) 50] ++ List.map (fun x => x.ren [1]) (List.drop 1 [AObj.cells ((AV.bool (decide (am < 0))) :: (ints .u8 (digs 88 (aV am ae)))) 50]) = [AObj.cells ((AV.bool (decide (am < 0))) :: (ints .u8 (digs 88 (aV am ae)))) 50],
                AV.bool (!true) = AV.bool false,
                0 ≤ 0,
                ((AV.bool (decide (am < 0))) :: (ints .u8 (digs 88 (aV am ae))) : List AV)[0 - 0]? = some (AV.bool true),
                AV.bool (!true) = AV.bool false,
                0 ≤ (48 : Int),
                ((Int.toNat (48 : Int)) : Nat) ≤ 88,
                (88 : Nat) ≤ 88,
                (88 : Nat) ≤ 88,
                AV.slice 1 (if 88 = (Int.toNat (48 : Int)) then 1 else 1 + (Int.toNat (48 : Int)) * 1) (88 - (Int.toNat (48 : Int))) (88 - (Int.toNat (48 : Int))) = AV.slice 1 49 40 40,
                [AV.slice 1 49 40 40] = renL [1] [AV.slice 0 49 (((digs 88 (aV am ae)).drop 48).length) 40],
                Meets Try.prog 59 [AV.slice 0 49 (((digs 88 (aV am ae)).drop 48).length) 40] [AObj.ro 49 (ints .u8 ((digs 88 (aV am ae)).drop 48))] (AV.bool (decide (val ((digs 88 (aV am ae)).drop 48) = 0))) [AObj.ro 49 (ints .u8 ((digs 88 (aV am ae)).drop 48))],
                Fits (AObj.cells ((AV.bool (decide (am < 0))) :: (ints .u8 (digs 88 (aV am ae)))) 50) (AObj.ren [1] (AObj.ro 49 (ints .u8 ((digs 88 (aV am ae)).drop 48)))),
                AV.ren [1] (AV.bool (decide (val ((digs 88 (aV am ae)).drop 48) = 0))) = AV.bool false,
                updOf [1] [AObj.cells ((AV.bool (decide (am < 0))) :: (ints .u8 (digs 88 (aV am ae)))) 50] [AObj.ro 49 (ints .u8 ((digs 88 (aV am ae)).drop 48))] [AObj.ro 49 (ints .u8 ((digs 88 (aV am ae)).drop 48))] ++ List.map (fun x => x.ren [1]) (List.drop 1 [AObj.ro 49 (ints .u8 ((digs 88 (aV am ae)).drop 48))]) = [AObj.cells ((AV.bool (decide (am < 0))) :: (ints .u8 (digs 88 (aV am ae)))) 50],
                AV.int .i64 (IntKind.i64.wrap (0 - (val ((digs 88 (aV am ae)).take 48)))) = AV.int .i64 (-(val ((digs 88 (aV am ae)).take 48))),
                AV.int .i64 (IntKind.i64.wrap ((-(val ((digs 88 (aV am ae)).take 48))) - 1)) = AV.int .i64 ((-(val ((digs 88 (aV am ae)).take 48))) - 1)],
              .ret, ⟨[some (AV.agg [AV.int .i64 am, AV.int .i64 ae]), some (AV.ptr 0 0), some (AV.int .i64 ((-(val ((digs 88 (aV am ae)).take 48))) - 1)), some (AV.int .i64 0), some (AV.ptr 1 0), some (AV.int .i64 (val ((digs 88 (aV am ae)).take 48))), some (AV.bool true), some (AV.agg [AV.int .i64 am, AV.int .i64 ae]), some (AV.bool true), some (AV.bool false), some (AV.agg [AV.int .i64 am, AV.int .i64 ae]), some (AV.agg ((AV.bool (decide (am < 0))) :: (ints .u8 (digs 88 (aV am ae))))), some (AV.tuple [AV.int .i64 (val ((digs 88 (aV am ae)).take 48)), AV.bool true]), some (AV.tuple [AV.int .i64 (val ((digs 88 (aV am ae)).take 48)), AV.bool true]), some (AV.int .i64 (val ((digs 88 (aV am ae)).take 48))), some (AV.bool true), some (AV.bool false), some (AV.bool true), some (AV.bool false), some (AV.bool false), some (AV.ptr 1 0), some (AV.bool true), some (AV.bool false), none, some (AV.bool false), some (AV.ptr 1 1), some (AV.slice 1 49 40 40), some (AV.bool false), none, none, some (AV.int .i64 (val ((digs 88 (aV am ae)).take 48))), some (AV.int .i64 (-(val ((digs 88 (aV am ae)).take 48)))), some (AV.int .i64 ((-(val ((digs 88 (aV am ae)).take 48))) - 1))], [some (AObj.cells [AV.int .i64 am, AV.int .i64 ae] 23), some (AObj.cells ((AV.bool (decide (am < 0))) :: (ints .u8 (digs 88 (aV am ae)))) 50)]⟩, []⟩)
            (ob := [AV.tuple [AV.int .i64 ((-(val ((digs 88 (aV am ae)).take 48))) - 1), AV.int .i64 0] = AV.tuple [AV.int .i64 ((floorR am ae).1), AV.int .i64 ((floorR am ae).2)],
                Avoid (fun n => decide (0 ≤ n)) (AV.tuple [AV.int .i64 ((floorR am ae).1), AV.int .i64 ((floorR am ae).2)])])
            Try.func26 (by kernel_rfl) Try.call26 (by kernel_rfl)
            ⟨Nat.zero_le _, Nat.le_of_ble_eq_true rfl, rfl, rfl, right_meets am ae, boolT c1, rfl, Nat.zero_le _, Nat.le_of_ble_eq_true rfl, rfl, rfl, lay_meets am ae _ (by have := right_bounds c1; omega) (by have := right_bounds c1; omega) (digs_aV _ _), by simp only [renL, AV.ren, renL_ints, renL_u8s, renL_append], by kernel_rfl, (by simp only [List.length_cons, List.length_nil, List.length_append, ints_length, u8s_length, List.length_replicate, List.length_set, List.length_map, digs_length] <;> omega), (by simp only [List.length_cons, List.length_nil, List.length_append, ints_length, u8s_length, List.length_replicate, List.length_set, List.length_map, digs_length] <;> omega), store_whole (by simp only [List.length_cons, List.length_nil, List.length_append, ints_length, u8s_length, List.length_replicate, List.length_set, List.length_map, digs_length] <;> omega), rfl, whole_meets (decide (am < 0)) (digs 88 (aV am ae)) 0 48 (digs_length _ _) (digs_dig _ _) (by omega) (by decide), Fits.of_eq (by simp only [AObj.ren, renL, AV.ren, renL_ints, renL_u8s, renL_append]), cap_pos c2, by simp [updOf, AObj.owned, AObj.ren, renL, AV.ren, renL_ints, renL_u8s, renL_append], rfl, Nat.zero_le _, atT (rfl) c3, rfl, by omega, by omega, by omega, by omega, by kernel_rfl, by simp only [renL, AV.ren, List.length_drop, digs_length]; rfl, none_meets ((digs 88 (aV am ae)).drop 48) 49 40 (by simp only [List.length_drop, digs_length] <;> omega) (by simp only [List.length_drop, digs_length] <;> omega) (Dig.drop (digs_dig _ _) _), fits_fig (i := 48) _ rfl List.take_length, bF c4, rfl, wI (by omega), wI (by omega), trivial⟩
            (.inl rfl) (by kernel_rfl) ⟨floor_down c1 c2 c3 c4, Avoid.tuple (AvoidL.cons (Avoid.int _ _ _) (AvoidL.cons (Avoid.int _ _ _) (AvoidL.nil _))), trivial⟩
      · exact meets_of_exec (fn := Try.f26) 2 [.reg [(0, {nm := [0]})], .reg [(0, {val := some (AV.agg [AV.int .i64 am, AV.int .i64 ae])}), (1, {call := some ⟨[], [AV.agg [AV.int .i64 am, AV.int .i64 ae]], [], AV.bool (rightB am ae), []⟩, val := some (AV.bool true)}), (2, {val := some (AV.bool false)})], .reg [(0, {val := some (AV.agg [AV.int .i64 am, AV.int .i64 ae])}), (1, {call := some ⟨[], [AV.agg [AV.int .i64 am, AV.int .i64 ae]], [], AV.agg ((AV.bool (decide (am < 0))) :: (ints .u8 (digs 88 (aV am ae)))), []⟩, val := some (AV.agg ((AV.bool (decide (am < 0))) :: (ints .u8 (digs 88 (aV am ae)))))}), (2, {nm := [1], obj := some [AObj.cells ((AV.bool false) :: (ints .u8 (List.replicate 88 0))) 50]}), (3, {obj := some [AObj.cells ((AV.bool (decide (am < 0))) :: (ints .u8 (digs 88 (aV am ae)))) 50]})], .reg [(0, {call := some ⟨[1], [AV.ptr 0 0, AV.int .i64 0], [AObj.cells ((AV.bool (decide (am < 0))) :: (ints .u8 (digs 88 (aV am ae)))) 50], AV.tuple [AV.int .i64 (capN (val ((digs 88 (aV am ae)).take 48))), AV.bool (capB (val ((digs 88 (aV am ae)).take 48)))], [AObj.cells ((AV.bool (decide (am < 0))) :: (ints .u8 (digs 88 (aV am ae)))) 50]⟩, val := some (AV.tuple [AV.int .i64 (val ((digs 88 (aV am ae)).take 48)), AV.bool true]), obj := some [AObj.cells ((AV.bool (decide (am < 0))) :: (ints .u8 (digs 88 (aV am ae)))) 50]})], .reg [(1, {val := some (AV.bool false)})], .reg [(1, {val := some (AV.bool false)}), (2, {val := some (AV.bool true)})], .reg []] [{}, {}]
          (r := ⟨[0 ≤ 0,
              0 - 0 + 2 ≤ List.length [AV.int .i64 am, AV.int .i64 ae],
              List.take 2 (List.drop (0 - 0) [AV.int .i64 am, AV.int .i64 ae]) = [AV.int .i64 am, AV.int .i64 ae],
              [AV.agg [AV.int .i64 am, AV.int .i64 ae]] = renL [] [AV.agg [AV.int .i64 am, AV.int .i64 ae]],
              Meets Try.prog 30 [AV.agg [AV.int .i64 am, AV.int .i64 ae]] [] (AV.bool (rightB am ae)) [],
              AV.ren [] (AV.bool (rightB am ae)) = AV.bool true,
              AV.bool (!true) = AV.bool false,
              0 ≤ 0,
              0 - 0 + 2 ≤ List.length [AV.int .i64 am, AV.int .i64 ae],
              List.take 2 (List.drop (0 - 0) [AV.int .i64 am, AV.int .i64 ae]) = [AV.int .i64 am, AV.int .i64 ae],
              [AV.agg [AV.int .i64 am, AV.int .i64 ae]] = renL [] [AV.agg [AV.int .i64 am, AV.int .i64 ae]],
              Meets Try.prog 33 [AV.agg [AV.int .i64 am, AV.int .i64 ae]] [] (AV.agg ((AV.bool (decide (am < 0))) :: (ints .u8 (digs 88 (aV am ae))))) [],
              AV.ren [] (AV.agg ((AV.bool (decide (am < 0))) :: (ints .u8 (digs 88 (aV am ae))))) = AV.agg ((AV.bool (decide (am < 0))) :: (ints .u8 (digs 88 (aV am ae)))),
              AObj.cells (zeroCellsA Try.prog 50) 50 = AObj.cells ((AV.bool false) :: (ints .u8 (List.replicate 88 0))) 50,
              ((AV.bool (decide (am < 0))) :: (ints .u8 (digs 88 (aV am ae))) : List AV).length = 89,
              0 + 89 ≤ List.length ((AV.bool false) :: (ints .u8 (List.replicate 88 0))),
              AObj.cells (List.take 0 ((AV.bool false) :: (ints .u8 (List.replicate 88 0))) ++ ((AV.bool (decide (am < 0))) :: (ints .u8 (digs 88 (aV am ae)))) ++ List.drop (0 + 89) ((AV.bool false) :: (ints .u8 (List.replicate 88 0)))) 50 = AObj.cells ((AV.bool (decide (am < 0))) :: (ints .u8 (digs 88 (aV am ae)))) 50,
              [AV.ptr 1 0, AV.int .i64 0] = renL [1] [AV.ptr 0 0, AV.int .i64 0],
              Meets Try.prog 58 [AV.ptr 0 0, AV.int .i64 0] [AObj.cells ((AV.bool (decide (am < 0))) :: (ints .u8 (digs 88 (aV am ae)))) 50] (AV.tuple [AV.int .i64 (capN (val ((digs 88 (aV am ae)).take 48))), AV.bool (capB (val ((digs 88 (aV am ae)).take 48)))]) [AObj.cells ((AV.bool (decide (am < 0))) :: (ints .u8 (digs 88 (aV am ae)))) 50],
              Fits (AObj.cells ((AV.bool (decide (am < 0))) :: (ints .u8 (digs 88 (aV am ae)))) 50) (AObj.ren [1] (AObj.cells ((AV.bool (decide (am < 0))) :: (ints .u8 (digs 88 (aV am ae)))) 50)),
              AV.ren [1] (AV.tuple [AV.int .i64 (capN (val ((digs 88 (aV am ae)).take 48))), AV.bool (capB (val ((digs 88 (aV am ae)).take 48)))]) = AV.tuple [AV.int .i64 (val ((digs 88 (aV am ae)).take 48)), AV.bool true],
              updOf [1] [AObj.cells ((AV.bool (decide (am < 0))) :: (ints .u8 (digs 88 (aV am ae)))) 50] [AObj.cells ((AV.bool (decide (am < 0))) :: (ints .u8 (digs 88 (aV am ae)))) 50] [AObj.cells ((AV.bool (decide (am < 0))) :: (ints .u8 (digs 88 (aV am ae)))) 50] ++ List.map (fun x => x.ren [1]) (List.drop 1 [AObj.cells ((AV.bool (decide (am < 0))) :: (ints .u8 (digs 88 (aV am ae)))) 50]) = [AObj.cells ((AV.bool (decide (am < 0))) :: (ints .u8 (digs 88 (aV am ae)))) 50],
              AV.bool (!true) = AV.bool false,
              0 ≤ 0,
              ((AV.bool (decide (am < 0))) :: (ints .u8 (digs 88 (aV am ae))) : List AV)[0 - 0]? = some (AV.bool false),
              AV.bool (!false) = AV.bool true],
            .ret, ⟨[some (AV.agg [AV.int .i64 am, AV.int .i64 ae]), some (AV.ptr 0 0), some (AV.int .i64 (val ((digs 88 (aV am ae)).take 48))), some (AV.int .i64 0), some (AV.ptr 1 0), some (AV.int .i64 (val ((digs 88 (aV am ae)).take 48))), some (AV.bool true), some (AV.agg [AV.int .i64 am, AV.int .i64 ae]), some (AV.bool true), some (AV.bool false), some (AV.agg [AV.int .i64 am, AV.int .i64 ae]), some (AV.agg ((AV.bool (decide (am < 0))) :: (ints .u8 (digs 88 (aV am ae))))), some (AV.tuple [AV.int .i64 (val ((digs 88 (aV am ae)).take 48)), AV.bool true]), some (AV.tuple [AV.int .i64 (val ((digs 88 (aV am ae)).take 48)), AV.bool true]), some (AV.int .i64 (val ((digs 88 (aV am ae)).take 48))), some (AV.bool true), some (AV.bool false), some (AV.bool true), some (AV.bool false), some (AV.bool true), some (AV.ptr 1 0), some (AV.bool false), some (AV.bool true), some (AV.int .i64 (val ((digs 88 (aV am ae)).take 48))), none, none, none, none, none, none, none, none, none], [some (AObj.cells [AV.int .i64 am, AV.int .i64 ae] 23), some (AObj.cells ((AV.bool (decide (am < 0))) :: (ints .u8 (digs 88 (aV am ae)))) 50)]⟩, []⟩)
          (ob := [AV.tuple [AV.int .i64 (val ((digs 88 (aV am ae)).take 48)), AV.int .i64 0] = AV.tuple [AV.int .i64 ((floorR am ae).1), AV.int .i64 ((floorR am ae).2)],
              Avoid (fun n => decide (0 ≤ n)) (AV.tuple [AV.int .i64 ((floorR am ae).1), AV.int .i64 ((floorR am ae).2)])])
          Try.func26 (by kernel_rfl) Try.call26 (by kernel_rfl)
          ⟨Nat.zero_le _, Nat.le_of_ble_eq_true rfl, rfl, rfl, right_meets am ae, boolT c1, rfl, Nat.zero_le _, Nat.le_of_ble_eq_true rfl, rfl, rfl, lay_meets am ae _ (by have := right_bounds c1; omega) (by have := right_bounds c1; omega) (digs_aV _ _), by simp only [renL, AV.ren, renL_ints, renL_u8s, renL_append], by kernel_rfl, (by simp only [List.length_cons, List.length_nil, List.length_append, ints_length, u8s_length, List.length_replicate, List.length_set, List.length_map, digs_length] <;> omega), (by simp only [List.length_cons, List.length_nil, List.length_append, ints_length, u8s_length, List.length_replicate, List.length_set, List.length_map, digs_length] <;> omega), store_whole (by simp only [List.length_cons, List.length_nil, List.length_append, ints_length, u8s_length, List.length_replicate, List.length_set, List.length_map, digs_length] <;> omega), rfl, whole_meets (decide (am < 0)) (digs 88 (aV am ae)) 0 48 (digs_length _ _) (digs_dig _ _) (by omega) (by decide), Fits.of_eq (by simp only [AObj.ren, renL, AV.ren, renL_ints, renL_u8s, renL_append]), cap_pos c2, by simp [updOf, AObj.owned, AObj.ren, renL, AV.ren, renL_ints, renL_u8s, renL_append], rfl, Nat.zero_le _, atF (rfl) c3, rfl, trivial⟩
          (.inl rfl) (by kernel_rfl) ⟨floor_plus c1 c2 c3, Avoid.tuple (AvoidL.cons (Avoid.int _ _ _) (AvoidL.cons (Avoid.int _ _ _) (AvoidL.nil _))), trivial⟩
    · exact meets_of_exec (fn := Try.f26) 2 [.reg [(0, {nm := [0]})], .reg [(0, {val := some (AV.agg [AV.int .i64 am, AV.int .i64 ae])}), (1, {call := some ⟨[], [AV.agg [AV.int .i64 am, AV.int .i64 ae]], [], AV.bool (rightB am ae), []⟩, val := some (AV.bool true)}), (2, {val := some (AV.bool false)})], .reg [(0, {val := some (AV.agg [AV.int .i64 am, AV.int .i64 ae])}), (1, {call := some ⟨[], [AV.agg [AV.int .i64 am, AV.int .i64 ae]], [], AV.agg ((AV.bool (decide (am < 0))) :: (ints .u8 (digs 88 (aV am ae)))), []⟩, val := some (AV.agg ((AV.bool (decide (am < 0))) :: (ints .u8 (digs 88 (aV am ae)))))}), (2, {nm := [1], obj := some [AObj.cells ((AV.bool false) :: (ints .u8 (List.replicate 88 0))) 50]}), (3, {obj := some [AObj.cells ((AV.bool (decide (am < 0))) :: (ints .u8 (digs 88 (aV am ae)))) 50]})], .reg [(0, {call := some ⟨[1], [AV.ptr 0 0, AV.int .i64 0], [AObj.cells ((AV.bool (decide (am < 0))) :: (ints .u8 (digs 88 (aV am ae)))) 50], AV.tuple [AV.int .i64 (capN (val ((digs 88 (aV am ae)).take 48))), AV.bool (capB (val ((digs 88 (aV am ae)).take 48)))], [AObj.cells ((AV.bool (decide (am < 0))) :: (ints .u8 (digs 88 (aV am ae)))) 50]⟩, val := some (AV.tuple [AV.int .i64 0, AV.bool false]), obj := some [AObj.cells ((AV.bool (decide (am < 0))) :: (ints .u8 (digs 88 (aV am ae)))) 50]})], .reg [(1, {val := some (AV.bool true)})], .reg []] [{}, {}]
        (r := ⟨[0 ≤ 0,
            0 - 0 + 2 ≤ List.length [AV.int .i64 am, AV.int .i64 ae],
            List.take 2 (List.drop (0 - 0) [AV.int .i64 am, AV.int .i64 ae]) = [AV.int .i64 am, AV.int .i64 ae],
            [AV.agg [AV.int .i64 am, AV.int .i64 ae]] = renL [] [AV.agg [AV.int .i64 am, AV.int .i64 ae]],
            Meets Try.prog 30 [AV.agg [AV.int .i64 am, AV.int .i64 ae]] [] (AV.bool (rightB am ae)) [],
            AV.ren [] (AV.bool (rightB am ae)) = AV.bool true,
            AV.bool (!true) = AV.bool false,
            0 ≤ 0,
            0 - 0 + 2 ≤ List.length [AV.int .i64 am, AV.int .i64 ae],
            List.take 2 (List.drop (0 - 0) [AV.int .i64 am, AV.int .i64 ae]) = [AV.int .i64 am, AV.int .i64 ae],
            [AV.agg [AV.int .i64 am, AV.int .i64 ae]] = renL [] [AV.agg [AV.int .i64 am, AV.int .i64 ae]],
            Meets Try.prog 33 [AV.agg [AV.int .i64 am, AV.int .i64 ae]] [] (AV.agg ((AV.bool (decide (am < 0))) :: (ints .u8 (digs 88 (aV am ae))))) [],
            AV.ren [] (AV.agg ((AV.bool (decide (am < 0))) :: (ints .u8 (digs 88 (aV am ae))))) = AV.agg ((AV.bool (decide (am < 0))) :: (ints .u8 (digs 88 (aV am ae)))),
            AObj.cells (zeroCellsA Try.prog 50) 50 = AObj.cells ((AV.bool false) :: (ints .u8 (List.replicate 88 0))) 50,
            ((AV.bool (decide (am < 0))) :: (ints .u8 (digs 88 (aV am ae))) : List AV).length = 89,
            0 + 89 ≤ List.length ((AV.bool false) :: (ints .u8 (List.replicate 88 0))),
            AObj.cells (List.take 0 ((AV.bool false) :: (ints .u8 (List.replicate 88 0))) ++ ((AV.bool (decide (am < 0))) :: (ints .u8 (digs 88 (aV am ae)))) ++ List.drop (0 + 89) ((AV.bool false) :: (ints .u8 (List.replicate 88 0)))) 50 = AObj.cells ((AV.bool (decide (am < 0))) :: (ints .u8 (digs 88 (aV am ae)))) 50,
            [AV.ptr 1 0, AV.int .i64 0] = renL [1] [AV.ptr 0 0, AV.int .i64 0],
            Meets Try.prog 58 [AV.ptr 0 0, AV.int .i64 0] [AObj.cells ((AV.bool (decide (am < 0))) :: (ints .u8 (digs 88 (aV am ae)))) 50] (AV.tuple [AV.int .i64 (capN (val ((digs 88 (aV am ae)).take 48))), AV.bool (capB (val ((digs 88 (aV am ae)).take 48)))]) [AObj.cells ((AV.bool (decide (am < 0))) :: (ints .u8 (digs 88 (aV am ae)))) 50],
            Fits (AObj.cells ((AV.bool (decide (am < 0))) :: (ints .u8 (digs 88 (aV am ae)))) 50) (AObj.ren [1] (AObj.cells ((AV.bool (decide (am < 0))) :: (ints .u8 (digs 88 (aV am ae)))) 50)),
            AV.ren [1] (AV.tuple [AV.int .i64 (capN (val ((digs 88 (aV am ae)).take 48))), AV.bool (capB (val ((digs 88 (aV am ae)).take 48)))]) = AV.tuple [AV.int .i64 0, AV.bool false],
            updOf [1] [AObj.cells ((AV.bool (decide (am < 0))) :: (ints .u8 (digs 88 (aV am ae)))) 50] [AObj.cells ((AV.bool (decide (am < 0))) :: (ints .u8 (digs 88 (aV am ae)))) 50] [AObj.cells ((AV.bool (decide (am < 0))) :: (ints .u8 (digs 88 (aV am ae)))) 50] ++ List.map (fun x => x.ren [1]) (List.drop 1 [AObj.cells ((AV.bool (decide (am < 0))) :: (ints .u8 (digs 88 (aV am ae)))) 50]) = [AObj.cells ((AV.bool (decide (am < 0))) :: (ints .u8 (digs 88 (aV am ae)))) 50],
            AV.bool (!false) = AV.bool true],
          .ret, ⟨[some (AV.agg [AV.int .i64 am, AV.int .i64 ae]), some (AV.ptr 0 0), some (AV.int .i64 0), some (AV.int .i64 10), some (AV.ptr 1 0), some (AV.int .i64 0), some (AV.bool false), some (AV.agg [AV.int .i64 am, AV.int .i64 ae]), some (AV.bool true), some (AV.bool false), some (AV.agg [AV.int .i64 am, AV.int .i64 ae]), some (AV.agg ((AV.bool (decide (am < 0))) :: (ints .u8 (digs 88 (aV am ae))))), some (AV.tuple [AV.int .i64 0, AV.bool false]), some (AV.tuple [AV.int .i64 0, AV.bool false]), some (AV.int .i64 0), some (AV.bool false), some (AV.bool true), some (AV.bool false), some (AV.bool true), none, none, none, none, none, none, none, none, none, none, none, none, none, none], [some (AObj.cells [AV.int .i64 am, AV.int .i64 ae] 23), some (AObj.cells ((AV.bool (decide (am < 0))) :: (ints .u8 (digs 88 (aV am ae)))) 50)]⟩, []⟩)
        (ob := [AV.tuple [AV.int .i64 0, AV.int .i64 10] = AV.tuple [AV.int .i64 ((floorR am ae).1), AV.int .i64 ((floorR am ae).2)],
            Avoid (fun n => decide (0 ≤ n)) (AV.tuple [AV.int .i64 ((floorR am ae).1), AV.int .i64 ((floorR am ae).2)])])
        Try.func26 (by kernel_rfl) Try.call26 (by kernel_rfl)
        ⟨Nat.zero_le _, Nat.le_of_ble_eq_true rfl, rfl, rfl, right_meets am ae, boolT c1, rfl, Nat.zero_le _, Nat.le_of_ble_eq_true rfl, rfl, rfl, lay_meets am ae _ (by have := right_bounds c1; omega) (by have := right_bounds c1; omega) (digs_aV _ _), by simp only [renL, AV.ren, renL_ints, renL_u8s, renL_append], by kernel_rfl, (by simp only [List.length_cons, List.length_nil, List.length_append, ints_length, u8s_length, List.length_replicate, List.length_set, List.length_map, digs_length] <;> omega), (by simp only [List.length_cons, List.length_nil, List.length_append, ints_length, u8s_length, List.length_replicate, List.length_set, List.length_map, digs_length] <;> omega), store_whole (by simp only [List.length_cons, List.length_nil, List.length_append, ints_length, u8s_length, List.length_replicate, List.length_set, List.length_map, digs_length] <;> omega), rfl, whole_meets (decide (am < 0)) (digs 88 (aV am ae)) 0 48 (digs_length _ _) (digs_dig _ _) (by omega) (by decide), Fits.of_eq (by simp only [AObj.ren, renL, AV.ren, renL_ints, renL_u8s, renL_append]), cap_neg c2, by simp [updOf, AObj.owned, AObj.ren, renL, AV.ren, renL_ints, renL_u8s, renL_append], rfl, trivial⟩
        (.inl rfl) (by kernel_rfl) ⟨by first | exact floor_over c1 c2 | simp [floorR, c1], Avoid.tuple (AvoidL.cons (Avoid.int _ _ _) (AvoidL.cons (Avoid.int _ _ _) (AvoidL.nil _))), trivial⟩
  · exact meets_of_exec (fn := Try.f26) 2 [.reg [(0, {nm := [0]})], .reg [(0, {val := some (AV.agg [AV.int .i64 am, AV.int .i64 ae])}), (1, {call := some ⟨[], [AV.agg [AV.int .i64 am, AV.int .i64 ae]], [], AV.bool (rightB am ae), []⟩, val := some (AV.bool false)}), (2, {val := some (AV.bool true)})], .reg []] [{}, {}]
      (r := ⟨[0 ≤ 0,
          0 - 0 + 2 ≤ List.length [AV.int .i64 am, AV.int .i64 ae],
          List.take 2 (List.drop (0 - 0) [AV.int .i64 am, AV.int .i64 ae]) = [AV.int .i64 am, AV.int .i64 ae],
          [AV.agg [AV.int .i64 am, AV.int .i64 ae]] = renL [] [AV.agg [AV.int .i64 am, AV.int .i64 ae]],
          Meets Try.prog 30 [AV.agg [AV.int .i64 am, AV.int .i64 ae]] [] (AV.bool (rightB am ae)) [],
          AV.ren [] (AV.bool (rightB am ae)) = AV.bool false,
          AV.bool (!false) = AV.bool true],
        .ret, ⟨[some (AV.agg [AV.int .i64 am, AV.int .i64 ae]), some (AV.ptr 0 0), some (AV.int .i64 0), some (AV.int .i64 10), none, none, none, some (AV.agg [AV.int .i64 am, AV.int .i64 ae]), some (AV.bool false), some (AV.bool true), none, none, none, none, none, none, none, none, none, none, none, none, none, none, none, none, none, none, none, none, none, none, none], [some (AObj.cells [AV.int .i64 am, AV.int .i64 ae] 23), none]⟩, []⟩)
      (ob := [AV.tuple [AV.int .i64 0, AV.int .i64 10] = AV.tuple [AV.int .i64 ((floorR am ae).1), AV.int .i64 ((floorR am ae).2)],
          Avoid (fun n => decide (0 ≤ n)) (AV.tuple [AV.int .i64 ((floorR am ae).1), AV.int .i64 ((floorR am ae).2)])])
      Try.func26 (by kernel_rfl) Try.call26 (by kernel_rfl)
      ⟨Nat.zero_le _, Nat.le_of_ble_eq_true rfl, rfl, rfl, right_meets am ae, boolF c1, rfl, trivial⟩
      (.inl rfl) (by kernel_rfl) ⟨by first | exact floor_over c1 c2 | simp [floorR, c1], Avoid.tuple (AvoidL.cons (Avoid.int _ _ _) (AvoidL.cons (Avoid.int _ _ _) (AvoidL.nil _))), trivial⟩

def ofR (n : Int) : Int × Int × Int := if rightB (trimmedS n 0).1 (trimmedS n 0).2 = true then ((trimmedS n 0).1, (trimmedS n 0).2, 0) else bad3

theorem of_meets (n : Int) (h : -9223372036854775808 < n ∧ n < 9223372036854775808) : Meets Try.prog 15 [AV.int .i64 n] [] (AV.tuple [AV.agg [AV.int .i64 ((ofR n).1), AV.int .i64 ((ofR n).2.1)], AV.int .i64 ((ofR n).2.2)]) [] := by
  by_cases c1 : rightB ((trimmedS n 0).1) ((trimmedS n 0).2) = true
  · exact meets_of_exec (fn := Try.f15) 2 [.reg [(0, {nm := [0]})], .reg [(1, {call := some ⟨[], [AV.int .i64 n, AV.int .i64 0], [], AV.agg [AV.int .i64 ((trimmedS n 0).1), AV.int .i64 ((trimmedS n 0).2)], []⟩}), (2, {nm := [1]}), (3, {obj := some [AObj.cells [AV.int .i64 ((trimmedS n 0).1), AV.int .i64 ((trimmedS n 0).2)] 23]})], .reg [(0, {val := some (AV.agg [AV.int .i64 ((trimmedS n 0).1), AV.int .i64 ((trimmedS n 0).2)])}), (1, {call := some ⟨[], [AV.agg [AV.int .i64 ((trimmedS n 0).1), AV.int .i64 ((trimmedS n 0).2)]], [], AV.bool (rightB ((trimmedS n 0).1) ((trimmedS n 0).2)), []⟩, val := some (AV.bool true)}), (2, {val := some (AV.bool false)})], .reg [(0, {val := some (AV.agg [AV.int .i64 ((trimmedS n 0).1), AV.int .i64 ((trimmedS n 0).2)])}), (1, {obj := some [AObj.cells [AV.int .i64 ((trimmedS n 0).1), AV.int .i64 ((trimmedS n 0).2)] 23]})]] [{val := some (AV.agg [AV.int .i64 ((trimmedS n 0).1), AV.int .i64 ((trimmedS n 0).2)])}, {}]
      (r := ⟨[[AV.int .i64 n, AV.int .i64 0] = renL [] [AV.int .i64 n, AV.int .i64 0],
          Meets Try.prog 41 [AV.int .i64 n, AV.int .i64 0] [] (AV.agg [AV.int .i64 ((trimmedS n 0).1), AV.int .i64 ((trimmedS n 0).2)]) [],
          ([AV.int .i64 ((trimmedS n 0).1), AV.int .i64 ((trimmedS n 0).2)] : List AV).length = 2,
          0 + 2 ≤ List.length [AV.int .i64 0, AV.int .i64 0],
          AObj.cells (List.take 0 [AV.int .i64 0, AV.int .i64 0] ++ [AV.int .i64 ((trimmedS n 0).1), AV.int .i64 ((trimmedS n 0).2)] ++ List.drop (0 + 2) [AV.int .i64 0, AV.int .i64 0]) 23 = AObj.cells [AV.int .i64 ((trimmedS n 0).1), AV.int .i64 ((trimmedS n 0).2)] 23,
          0 ≤ 0,
          0 - 0 + 2 ≤ List.length [AV.int .i64 ((trimmedS n 0).1), AV.int .i64 ((trimmedS n 0).2)],
          List.take 2 (List.drop (0 - 0) [AV.int .i64 ((trimmedS n 0).1), AV.int .i64 ((trimmedS n 0).2)]) = [AV.int .i64 ((trimmedS n 0).1), AV.int .i64 ((trimmedS n 0).2)],
          [AV.agg [AV.int .i64 ((trimmedS n 0).1), AV.int .i64 ((trimmedS n 0).2)]] = renL [] [AV.agg [AV.int .i64 ((trimmedS n 0).1), AV.int .i64 ((trimmedS n 0).2)]],
          Meets Try.prog 30 [AV.agg [AV.int .i64 ((trimmedS n 0).1), AV.int .i64 ((trimmedS n 0).2)]] [] (AV.bool (rightB ((trimmedS n 0).1) ((trimmedS n 0).2))) [],
          AV.ren [] (AV.bool (rightB ((trimmedS n 0).1) ((trimmedS n 0).2))) = AV.bool true,
          AV.bool (!true) = AV.bool false,
          0 ≤ 0,
          0 - 0 + 2 ≤ List.length [AV.int .i64 ((trimmedS n 0).1), AV.int .i64 ((trimmedS n 0).2)],
          List.take 2 (List.drop (0 - 0) [AV.int .i64 ((trimmedS n 0).1), AV.int .i64 ((trimmedS n 0).2)]) = [AV.int .i64 ((trimmedS n 0).1), AV.int .i64 ((trimmedS n 0).2)],
          ([AV.int .i64 ((trimmedS n 0).1), AV.int .i64 ((trimmedS n 0).2)] : List AV).length = 2,
          0 + 2 ≤ List.length [AV.int .i64 0, AV.int .i64 0],
          AObj.cells (List.take 0 [AV.int .i64 0, AV.int .i64 0] ++ [AV.int .i64 ((trimmedS n 0).1), AV.int .i64 ((trimmedS n 0).2)] ++ List.drop (0 + 2) [AV.int .i64 0, AV.int .i64 0]) 23 = AObj.cells [AV.int .i64 ((trimmedS n 0).1), AV.int .i64 ((trimmedS n 0).2)] 23],
        .ret, ⟨[some (AV.int .i64 n), none, some (AV.ptr 0 0), some (AV.int .i64 0), some (AV.ptr 1 0), some (AV.int .i64 n), some (AV.agg [AV.int .i64 ((trimmedS n 0).1), AV.int .i64 ((trimmedS n 0).2)]), some (AV.agg [AV.int .i64 ((trimmedS n 0).1), AV.int .i64 ((trimmedS n 0).2)]), some (AV.bool true), some (AV.bool false), none, some (AV.agg [AV.int .i64 ((trimmedS n 0).1), AV.int .i64 ((trimmedS n 0).2)])], [some (AObj.cells [AV.int .i64 ((trimmedS n 0).1), AV.int .i64 ((trimmedS n 0).2)] 23), some (AObj.cells [AV.int .i64 ((trimmedS n 0).1), AV.int .i64 ((trimmedS n 0).2)] 23)]⟩, []⟩)
      (ob := [0 ≤ 0,
          0 - 0 + 2 ≤ List.length [AV.int .i64 ((trimmedS n 0).1), AV.int .i64 ((trimmedS n 0).2)],
          List.take 2 (List.drop (0 - 0) [AV.int .i64 ((trimmedS n 0).1), AV.int .i64 ((trimmedS n 0).2)]) = [AV.int .i64 ((trimmedS n 0).1), AV.int .i64 ((trimmedS n 0).2)],
          AV.tuple [AV.agg [AV.int .i64 ((trimmedS n 0).1), AV.int .i64 ((trimmedS n 0).2)], AV.int .i64 0] = AV.tuple [AV.agg [AV.int .i64 ((ofR n).1), AV.int .i64 ((ofR n).2.1)], AV.int .i64 ((ofR n).2.2)],
          Avoid (fun n => decide (0 ≤ n)) (AV.tuple [AV.agg [AV.int .i64 ((ofR n).1), AV.int .i64 ((ofR n).2.1)], AV.int .i64 ((ofR n).2.2)])])
      Try.func15 (by kernel_rfl) Try.call15 (by kernel_rfl)
      ⟨rfl, trimmed_meets n 0 (by omega) (by omega), rfl, Nat.le_of_ble_eq_true rfl, rfl, Nat.zero_le _, Nat.le_of_ble_eq_true rfl, rfl, rfl, right_meets ((trimmedS n 0).1) ((trimmedS n 0).2), boolT c1, rfl, Nat.zero_le _, Nat.le_of_ble_eq_true rfl, rfl, rfl, Nat.le_of_ble_eq_true rfl, rfl, trivial⟩
      (.inl rfl) (by kernel_rfl) ⟨Nat.zero_le _, Nat.le_of_ble_eq_true rfl, rfl, by simp [ofR, bad3, c1], Avoid.tuple (AvoidL.cons (Avoid.agg (AvoidL.cons (Avoid.int _ _ _) (AvoidL.cons (Avoid.int _ _ _) (AvoidL.nil _)))) (AvoidL.cons (Avoid.int _ _ _) (AvoidL.nil _))), trivial⟩
  · exact meets_of_exec (fn := Try.f15) 2 [.reg [(0, {nm := [0]})], .reg [(1, {call := some ⟨[], [AV.int .i64 n, AV.int .i64 0], [], AV.agg [AV.int .i64 ((trimmedS n 0).1), AV.int .i64 ((trimmedS n 0).2)], []⟩}), (2, {nm := [1]}), (3, {obj := some [AObj.cells [AV.int .i64 ((trimmedS n 0).1), AV.int .i64 ((trimmedS n 0).2)] 23]})], .reg [(0, {val := some (AV.agg [AV.int .i64 ((trimmedS n 0).1), AV.int .i64 ((trimmedS n 0).2)])}), (1, {call := some ⟨[], [AV.agg [AV.int .i64 ((trimmedS n 0).1), AV.int .i64 ((trimmedS n 0).2)]], [], AV.bool (rightB ((trimmedS n 0).1) ((trimmedS n 0).2)), []⟩, val := some (AV.bool false)}), (2, {val := some (AV.bool true)})], .reg [(1, {obj := some [AObj.cells [AV.int .i64 0, AV.int .i64 0] 23]})]] [{val := some (AV.agg [AV.int .i64 0, AV.int .i64 0])}, {}]
      (r := ⟨[[AV.int .i64 n, AV.int .i64 0] = renL [] [AV.int .i64 n, AV.int .i64 0],
          Meets Try.prog 41 [AV.int .i64 n, AV.int .i64 0] [] (AV.agg [AV.int .i64 ((trimmedS n 0).1), AV.int .i64 ((trimmedS n 0).2)]) [],
          ([AV.int .i64 ((trimmedS n 0).1), AV.int .i64 ((trimmedS n 0).2)] : List AV).length = 2,
          0 + 2 ≤ List.length [AV.int .i64 0, AV.int .i64 0],
          AObj.cells (List.take 0 [AV.int .i64 0, AV.int .i64 0] ++ [AV.int .i64 ((trimmedS n 0).1), AV.int .i64 ((trimmedS n 0).2)] ++ List.drop (0 + 2) [AV.int .i64 0, AV.int .i64 0]) 23 = AObj.cells [AV.int .i64 ((trimmedS n 0).1), AV.int .i64 ((trimmedS n 0).2)] 23,
          0 ≤ 0,
          0 - 0 + 2 ≤ List.length [AV.int .i64 ((trimmedS n 0).1), AV.int .i64 ((trimmedS n 0).2)],
          List.take 2 (List.drop (0 - 0) [AV.int .i64 ((trimmedS n 0).1), AV.int .i64 ((trimmedS n 0).2)]) = [AV.int .i64 ((trimmedS n 0).1), AV.int .i64 ((trimmedS n 0).2)],
          [AV.agg [AV.int .i64 ((trimmedS n 0).1), AV.int .i64 ((trimmedS n 0).2)]] = renL [] [AV.agg [AV.int .i64 ((trimmedS n 0).1), AV.int .i64 ((trimmedS n 0).2)]],
          Meets Try.prog 30 [AV.agg [AV.int .i64 ((trimmedS n 0).1), AV.int .i64 ((trimmedS n 0).2)]] [] (AV.bool (rightB ((trimmedS n 0).1) ((trimmedS n 0).2))) [],
          AV.ren [] (AV.bool (rightB ((trimmedS n 0).1) ((trimmedS n 0).2))) = AV.bool false,
          AV.bool (!false) = AV.bool true,
          ([AV.int .i64 0, AV.int .i64 0] : List AV).length = 2,
          0 + 2 ≤ List.length [AV.int .i64 0, AV.int .i64 0],
          AObj.cells (List.take 0 [AV.int .i64 0, AV.int .i64 0] ++ [AV.int .i64 0, AV.int .i64 0] ++ List.drop (0 + 2) [AV.int .i64 0, AV.int .i64 0]) 23 = AObj.cells [AV.int .i64 0, AV.int .i64 0] 23],
        .ret, ⟨[some (AV.int .i64 n), none, some (AV.ptr 0 0), some (AV.int .i64 10), some (AV.ptr 1 0), some (AV.int .i64 n), some (AV.agg [AV.int .i64 ((trimmedS n 0).1), AV.int .i64 ((trimmedS n 0).2)]), some (AV.agg [AV.int .i64 ((trimmedS n 0).1), AV.int .i64 ((trimmedS n 0).2)]), some (AV.bool false), some (AV.bool true), some (AV.agg [AV.int .i64 0, AV.int .i64 0]), none], [some (AObj.cells [AV.int .i64 0, AV.int .i64 0] 23), some (AObj.cells [AV.int .i64 ((trimmedS n 0).1), AV.int .i64 ((trimmedS n 0).2)] 23)]⟩, []⟩)
      (ob := [0 ≤ 0,
          0 - 0 + 2 ≤ List.length [AV.int .i64 0, AV.int .i64 0],
          List.take 2 (List.drop (0 - 0) [AV.int .i64 0, AV.int .i64 0]) = [AV.int .i64 0, AV.int .i64 0],
          AV.tuple [AV.agg [AV.int .i64 0, AV.int .i64 0], AV.int .i64 10] = AV.tuple [AV.agg [AV.int .i64 ((ofR n).1), AV.int .i64 ((ofR n).2.1)], AV.int .i64 ((ofR n).2.2)],
          Avoid (fun n => decide (0 ≤ n)) (AV.tuple [AV.agg [AV.int .i64 ((ofR n).1), AV.int .i64 ((ofR n).2.1)], AV.int .i64 ((ofR n).2.2)])])
      Try.func15 (by kernel_rfl) Try.call15 (by kernel_rfl)
      ⟨rfl, trimmed_meets n 0 (by omega) (by omega), rfl, Nat.le_of_ble_eq_true rfl, rfl, Nat.zero_le _, Nat.le_of_ble_eq_true rfl, rfl, rfl, right_meets ((trimmedS n 0).1) ((trimmedS n 0).2), boolF c1, rfl, rfl, Nat.le_of_ble_eq_true rfl, rfl, trivial⟩
      (.inl rfl) (by kernel_rfl) ⟨Nat.zero_le _, Nat.le_of_ble_eq_true rfl, rfl, by simp [ofR, bad3, c1], Avoid.tuple (AvoidL.cons (Avoid.agg (AvoidL.cons (Avoid.int _ _ _) (AvoidL.cons (Avoid.int _ _ _) (AvoidL.nil _)))) (AvoidL.cons (Avoid.int _ _ _) (AvoidL.nil _))), trivial⟩

end Go.Proofs.Ytabgphldbgdbpaa
