import Derived.Test.YtabgphldbgdbpaaDecI
set_option linter.unusedVariables false
set_option linter.unusedSimpArgs false
set_option maxRecDepth 20000
namespace Go.Proofs.Ytabgphldbgdbpaa
open Go Sx Dc

theorem difference_meets (am ae bm be : Int) (ham : -1000000000000000 < am ∧ am < 1000000000000000) (hae : -9 ≤ ae ∧ ae ≤ 9) (hbm : -1000000000000000 < bm ∧ bm < 1000000000000000) (hbe : -9 ≤ be ∧ be ≤ 9) : Meets Try.prog 56 [AV.agg [AV.int .i64 am, AV.int .i64 ae, AV.int .i64 bm, AV.int .i64 be]] [] (AV.agg ((AV.bool (sumB am ae (-bm) be)) :: (ints .u8 (digs 88 (sumV am ae (-bm) be))))) [] := by
  exact meets_of_exec (fn := Try.f56) 2 [.reg [(0, {nm := [0]}), (1, {nm := [1], obj := some [AObj.cells ((AV.bool false) :: (ints .u8 (List.replicate 88 0))) 50]})], .reg [(1, {val := some (AV.agg [AV.int .i64 am, AV.int .i64 ae])}), (4, {val := some (AV.int .i64 bm)}), (5, {val := some (AV.int .i64 (-bm))}), (8, {val := some (AV.int .i64 be)}), (9, {val := some (AV.agg [AV.int .i64 (-bm), AV.int .i64 be])}), (10, {val := some (AV.agg [AV.int .i64 am, AV.int .i64 ae, AV.int .i64 (-bm), AV.int .i64 be])}), (11, {call := some ⟨[], [AV.agg [AV.int .i64 am, AV.int .i64 ae, AV.int .i64 (-bm), AV.int .i64 be]], [], AV.agg ((AV.bool (sumB am ae (-bm) be)) :: (ints .u8 (digs 88 (sumV am ae (-bm) be)))), []⟩, val := some (AV.agg ((AV.bool (sumB am ae (-bm) be)) :: (ints .u8 (digs 88 (sumV am ae (-bm) be)))))}), (12, {obj := some [AObj.cells ((AV.bool (sumB am ae (-bm) be)) :: (ints .u8 (digs 88 (sumV am ae (-bm) be)))) 50]})]] [{val := some (AV.agg ((AV.bool (sumB am ae (-bm) be)) :: (ints .u8 (digs 88 (sumV am ae (-bm) be)))))}]
    (r := ⟨[AObj.cells (zeroCellsA Try.prog 50) 50 = AObj.cells ((AV.bool false) :: (ints .u8 (List.replicate 88 0))) 50,
        0 ≤ 0,
        0 - 0 + 2 ≤ List.length [AV.int .i64 am, AV.int .i64 ae, AV.int .i64 bm, AV.int .i64 be],
        List.take 2 (List.drop (0 - 0) [AV.int .i64 am, AV.int .i64 ae, AV.int .i64 bm, AV.int .i64 be]) = [AV.int .i64 am, AV.int .i64 ae],
        0 ≤ 2,
        ([AV.int .i64 am, AV.int .i64 ae, AV.int .i64 bm, AV.int .i64 be] : List AV)[2 - 0]? = some (AV.int .i64 bm),
        AV.int .i64 (IntKind.i64.wrap (0 - bm)) = AV.int .i64 (-bm),
        0 ≤ 3,
        ([AV.int .i64 am, AV.int .i64 ae, AV.int .i64 bm, AV.int .i64 be] : List AV)[3 - 0]? = some (AV.int .i64 be),
        ([AV.int .i64 (-bm)] : List AV).length = 1,
        0 + 1 ≤ ([AV.int .i64 0, AV.int .i64 0] : List AV).length,
        ([AV.int .i64 be] : List AV).length = 1,
        1 + 1 ≤ (List.take 0 [AV.int .i64 0, AV.int .i64 0] ++ [AV.int .i64 (-bm)] ++ List.drop 1 [AV.int .i64 0, AV.int .i64 0] : List AV).length,
        AV.agg (List.take 1 (List.take 0 [AV.int .i64 0, AV.int .i64 0] ++ [AV.int .i64 (-bm)] ++ List.drop 1 [AV.int .i64 0, AV.int .i64 0]) ++ [AV.int .i64 be] ++ List.drop 2 (List.take 0 [AV.int .i64 0, AV.int .i64 0] ++ [AV.int .i64 (-bm)] ++ List.drop 1 [AV.int .i64 0, AV.int .i64 0])) = AV.agg [AV.int .i64 (-bm), AV.int .i64 be],
        ([AV.int .i64 am, AV.int .i64 ae] : List AV).length = 2,
        0 + 2 ≤ ([AV.int .i64 0, AV.int .i64 0, AV.int .i64 0, AV.int .i64 0] : List AV).length,
        ([AV.int .i64 (-bm), AV.int .i64 be] : List AV).length = 2,
        2 + 2 ≤ (List.take 0 [AV.int .i64 0, AV.int .i64 0, AV.int .i64 0, AV.int .i64 0] ++ [AV.int .i64 am, AV.int .i64 ae] ++ List.drop 2 [AV.int .i64 0, AV.int .i64 0, AV.int .i64 0, AV.int .i64 0] : List AV).length,
        AV.agg (List.take 2 (List.take 0 [AV.int .i64 0, AV.int .i64 0, AV.int .i64 0, AV.int .i64 0] ++ [AV.int .i64 am, AV.int .i64 ae] ++ List.drop 2 [AV.int .i64 0, AV.int .i64 0, AV.int .i64 0, AV.int .i64 0]) ++ [AV.int .i64 (-bm), AV.int .i64 be] ++ List.drop 4 (List.take 0 [AV.int .i64 0, AV.int .i64 0, AV.int .i64 0, AV.int .i64 0] ++ [AV.int .i64 am, AV.int .i64 ae] ++ List.drop 2 [AV.int .i64 0, AV.int .i64 0, AV.int .i64 0, AV.int .i64 0])) = AV.agg [AV.int .i64 am, AV.int .i64 ae, AV.int .i64 (-bm), AV.int .i64 be],
        [AV.agg [AV.int .i64 am, AV.int .i64 ae, AV.int .i64 (-bm), AV.int .i64 be]] = renL [] [AV.agg [AV.int .i64 am, AV.int .i64 ae, AV.int .i64 (-bm), AV.int .i64 be]],
        Meets Try.prog 54 [AV.agg [AV.int .i64 am, AV.int .i64 ae, AV.int .i64 (-bm), AV.int .i64 be]] [] (AV.agg ((AV.bool (sumB am ae (-bm) be)) :: (ints .u8 (digs 88 (sumV am ae (-bm) be))))) [],
        AV.ren [] (AV.agg ((AV.bool (sumB am ae (-bm) be)) :: (ints .u8 (digs 88 (sumV am ae (-bm) be))))) = AV.agg ((AV.bool (sumB am ae (-bm) be)) :: (ints .u8 (digs 88 (sumV am ae (-bm) be)))),
        ((AV.bool (sumB am ae (-bm) be)) :: (ints .u8 (digs 88 (sumV am ae (-bm) be))) : List AV).length = 89,
        0 + 89 ≤ List.length ((AV.bool false) :: (ints .u8 (List.replicate 88 0))),
        AObj.cells (List.take 0 ((AV.bool false) :: (ints .u8 (List.replicate 88 0))) ++ ((AV.bool (sumB am ae (-bm) be)) :: (ints .u8 (digs 88 (sumV am ae (-bm) be)))) ++ List.drop (0 + 89) ((AV.bool false) :: (ints .u8 (List.replicate 88 0)))) 50 = AObj.cells ((AV.bool (sumB am ae (-bm) be)) :: (ints .u8 (digs 88 (sumV am ae (-bm) be)))) 50],
      .ret, ⟨[some (AV.agg [AV.int .i64 am, AV.int .i64 ae, AV.int .i64 bm, AV.int .i64 be]), some (AV.ptr 0 0), some (AV.ptr 1 0), some (AV.ptr 0 0), some (AV.agg [AV.int .i64 am, AV.int .i64 ae]), some (AV.ptr 0 2), some (AV.ptr 0 2), some (AV.int .i64 bm), some (AV.int .i64 (-bm)), some (AV.ptr 0 2), some (AV.ptr 0 3), some (AV.int .i64 be), some (AV.agg [AV.int .i64 (-bm), AV.int .i64 be]), some (AV.agg [AV.int .i64 am, AV.int .i64 ae, AV.int .i64 (-bm), AV.int .i64 be]), some (AV.agg ((AV.bool (sumB am ae (-bm) be)) :: (ints .u8 (digs 88 (sumV am ae (-bm) be)))))], [some (AObj.cells [AV.int .i64 am, AV.int .i64 ae, AV.int .i64 bm, AV.int .i64 be] 65), some (AObj.cells ((AV.bool (sumB am ae (-bm) be)) :: (ints .u8 (digs 88 (sumV am ae (-bm) be)))) 50)]⟩, []⟩)
    (ob := [0 ≤ 0,
        0 - 0 + 89 ≤ List.length ((AV.bool (sumB am ae (-bm) be)) :: (ints .u8 (digs 88 (sumV am ae (-bm) be)))),
        List.take 89 (List.drop (0 - 0) ((AV.bool (sumB am ae (-bm) be)) :: (ints .u8 (digs 88 (sumV am ae (-bm) be))))) = (AV.bool (sumB am ae (-bm) be)) :: (ints .u8 (digs 88 (sumV am ae (-bm) be))),
        AV.agg ((AV.bool (sumB am ae (-bm) be)) :: (ints .u8 (digs 88 (sumV am ae (-bm) be)))) = AV.agg ((AV.bool (sumB am ae (-bm) be)) :: (ints .u8 (digs 88 (sumV am ae (-bm) be)))),
        Avoid (fun n => decide (0 ≤ n)) (AV.agg ((AV.bool (sumB am ae (-bm) be)) :: (ints .u8 (digs 88 (sumV am ae (-bm) be)))))])
    Try.func56 (by kernel_rfl) Try.call56 (by kernel_rfl)
    ⟨by kernel_rfl, Nat.zero_le _, Nat.le_of_ble_eq_true rfl, rfl, Nat.zero_le _, rfl, wI (by omega), Nat.zero_le _, rfl, rfl, Nat.le_of_ble_eq_true (by kernel_rfl), rfl, Nat.le_of_ble_eq_true (by kernel_rfl), by kernel_rfl, rfl, Nat.le_of_ble_eq_true (by kernel_rfl), rfl, Nat.le_of_ble_eq_true (by kernel_rfl), by kernel_rfl, rfl, sum_meets am ae (-bm) be ham (by omega) (by omega) (by omega), by simp only [renL, AV.ren, renL_ints, renL_u8s, renL_append], (by simp only [List.length_cons, List.length_nil, List.length_append, ints_length, u8s_length, List.length_replicate, List.length_set, List.length_map, digs_length] <;> omega), (by simp only [List.length_cons, List.length_nil, List.length_append, ints_length, u8s_length, List.length_replicate, List.length_set, List.length_map, digs_length] <;> omega), store_whole (by simp only [List.length_cons, List.length_nil, List.length_append, ints_length, u8s_length, List.length_replicate, List.length_set, List.length_map, digs_length] <;> omega), trivial⟩
    (.inl rfl) (by kernel_rfl) ⟨Nat.zero_le _, (by simp only [List.length_cons, List.length_nil, List.length_append, ints_length, u8s_length, List.length_replicate, List.length_set, List.length_map, digs_length] <;> omega), whole_cells (by simp only [List.length_cons, List.length_nil, List.length_append, ints_length, u8s_length, List.length_replicate, List.length_set, List.length_map, digs_length] <;> omega), rfl, Avoid.agg (AvoidL.cons (Avoid.bool _ _) (AvoidL.ints _ _ _)), trivial⟩

def unlikeB (am bm : Int) : Bool := !(decide (am < 0) == decide (bm < 0))

theorem unlike_meets (am ae bm be : Int) : Meets Try.prog 76 [AV.agg [AV.int .i64 am, AV.int .i64 ae, AV.int .i64 bm, AV.int .i64 be]] [] (AV.bool (unlikeB am bm)) [] := by
  exact meets_of_exec (fn := Try.f76) 1 [.reg [(0, {nm := [0]})], .reg [(2, {val := some (AV.int .i64 am)}), (6, {val := some (AV.int .i64 bm)})]] [{}]
    (r := ⟨[0 ≤ 0,
        ([AV.int .i64 am, AV.int .i64 ae, AV.int .i64 bm, AV.int .i64 be] : List AV)[0 - 0]? = some (AV.int .i64 am),
        0 ≤ 2,
        ([AV.int .i64 am, AV.int .i64 ae, AV.int .i64 bm, AV.int .i64 be] : List AV)[2 - 0]? = some (AV.int .i64 bm)],
      .ret, ⟨[some (AV.agg [AV.int .i64 am, AV.int .i64 ae, AV.int .i64 bm, AV.int .i64 be]), some (AV.ptr 0 0), some (AV.bool (!((decide (am < 0)) == (decide (bm < 0))))), some (AV.ptr 0 0), some (AV.ptr 0 0), some (AV.int .i64 am), some (AV.bool (decide (am < 0))), some (AV.ptr 0 2), some (AV.ptr 0 2), some (AV.int .i64 bm), some (AV.bool (decide (bm < 0))), some (AV.bool (!((decide (am < 0)) == (decide (bm < 0)))))], [some (AObj.cells [AV.int .i64 am, AV.int .i64 ae, AV.int .i64 bm, AV.int .i64 be] 65)]⟩, []⟩)
    (ob := [AV.bool (!((decide (am < 0)) == (decide (bm < 0)))) = AV.bool (unlikeB am bm)])
    Try.func76 (by kernel_rfl) Try.call76 (by kernel_rfl)
    ⟨Nat.zero_le _, rfl, Nat.zero_le _, rfl, trivial⟩
    (.inl rfl) (by kernel_rfl) ⟨rfl, trivial⟩

def mulV (am ae bm be : Int) : Int := aV am (ae + be) * ((bm.natAbs : Nat) : Int)
theorem mulV_digs {am ae bm be : Int} (ham : -1000000000000000 < am ∧ am < 1000000000000000) (hae : -9 ≤ ae ∧ ae ≤ 9) (hbm : -1000000000000000 < bm ∧ bm < 1000000000000000) (hbe : -9 ≤ be ∧ be ≤ 9) :
    timesArr ((bm.natAbs : Nat) : Int) (digs 88 (aV am (ae + be))) 0 = digs 88 (mulV am ae bm be) := by
  have hX := aV_bounds ham (e := ae + be) (by omega)
  have h73 : (10 : Int) ^ 73 ≤ 10 ^ 88 := by decide
  have h1 : aV am (ae + be) * ((bm.natAbs : Nat) : Int) ≤ (10 ^ 73 - 1) * (10 ^ 15 - 1) := Int.mul_le_mul (by omega) (by omega) (by omega) (by decide)
  have h2 : ((10 : Int) ^ 73 - 1) * (10 ^ 15 - 1) < 10 ^ 88 := by decide
  exact timesArr_zero (by omega) ⟨hX.1, by omega⟩ (by omega)
attribute [irreducible] mulV

theorem product_meets (am ae bm be : Int) (ham : -1000000000000000 < am ∧ am < 1000000000000000) (hae : -9 ≤ ae ∧ ae ≤ 9) (hbm : -1000000000000000 < bm ∧ bm < 1000000000000000) (hbe : -9 ≤ be ∧ be ≤ 9) : Meets Try.prog 55 [AV.agg [AV.int .i64 am, AV.int .i64 ae, AV.int .i64 bm, AV.int .i64 be]] [] (AV.agg ((AV.bool (unlikeB am bm)) :: (ints .u8 (digs 88 (mulV am ae bm be))))) [] := by
  exact meets_of_exec (fn := Try.f55) 3 [.reg [(0, {nm := [0]}), (1, {nm := [1], obj := some [AObj.cells ((AV.bool false) :: (ints .u8 (List.replicate 88 0))) 50]})], .reg [(2, {val := some (AV.int .i64 am)}), (5, {val := some (AV.int .i64 ae)}), (8, {val := some (AV.int .i64 be)}), (9, {val := some (AV.int .i64 (ae + be))}), (10, {val := some (AV.agg [AV.int .i64 am, AV.int .i64 (ae + be)])}), (11, {call := some ⟨[], [AV.agg [AV.int .i64 am, AV.int .i64 (ae + be)]], [], AV.agg ((AV.bool (decide (am < 0))) :: (ints .u8 (digs 88 (aV am (ae + be))))), []⟩, val := some (AV.agg ((AV.bool (decide (am < 0))) :: (ints .u8 (digs 88 (aV am (ae + be))))))}), (14, {val := some (AV.int .i64 bm)}), (15, {call := some ⟨[], [AV.int .i64 bm], [], AV.int .i64 ((bm.natAbs : Nat) : Int), []⟩}), (16, {call := some ⟨[], [AV.agg ((AV.bool (decide (am < 0))) :: (ints .u8 (digs 88 (aV am (ae + be))))), AV.int .i64 ((bm.natAbs : Nat) : Int)], [], AV.agg ((AV.bool (decide (am < 0))) :: (ints .u8 (digs 88 (mulV am ae bm be)))), []⟩, val := some (AV.agg ((AV.bool (decide (am < 0))) :: (ints .u8 (digs 88 (mulV am ae bm be)))))}), (17, {nm := [2], obj := some [AObj.cells ((AV.bool false) :: (ints .u8 (List.replicate 88 0))) 50]}), (18, {obj := some [AObj.cells ((AV.bool (decide (am < 0))) :: (ints .u8 (digs 88 (mulV am ae bm be)))) 50]})], .reg [(0, {val := some (AV.agg [AV.int .i64 am, AV.int .i64 ae, AV.int .i64 bm, AV.int .i64 be])}), (1, {call := some ⟨[], [AV.agg [AV.int .i64 am, AV.int .i64 ae, AV.int .i64 bm, AV.int .i64 be]], [], AV.bool (unlikeB am bm), []⟩}), (3, {obj := some [AObj.cells ((AV.bool (unlikeB am bm)) :: (ints .u8 (digs 88 (mulV am ae bm be)))) 50]})], .reg [(0, {val := some (AV.agg ((AV.bool (unlikeB am bm)) :: (ints .u8 (digs 88 (mulV am ae bm be)))))}), (1, {obj := some [AObj.cells ((AV.bool (unlikeB am bm)) :: (ints .u8 (digs 88 (mulV am ae bm be)))) 50]})]] [{val := some (AV.agg ((AV.bool (unlikeB am bm)) :: (ints .u8 (digs 88 (mulV am ae bm be)))))}]
    (r := ⟨[AObj.cells (zeroCellsA Try.prog 50) 50 = AObj.cells ((AV.bool false) :: (ints .u8 (List.replicate 88 0))) 50,
        0 ≤ 0,
        ([AV.int .i64 am, AV.int .i64 ae, AV.int .i64 bm, AV.int .i64 be] : List AV)[0 - 0]? = some (AV.int .i64 am),
        0 ≤ 1,
        ([AV.int .i64 am, AV.int .i64 ae, AV.int .i64 bm, AV.int .i64 be] : List AV)[1 - 0]? = some (AV.int .i64 ae),
        0 ≤ 3,
        ([AV.int .i64 am, AV.int .i64 ae, AV.int .i64 bm, AV.int .i64 be] : List AV)[3 - 0]? = some (AV.int .i64 be),
        AV.int .i64 (IntKind.i64.wrap (ae + be)) = AV.int .i64 (ae + be),
        ([AV.int .i64 am] : List AV).length = 1,
        0 + 1 ≤ ([AV.int .i64 0, AV.int .i64 0] : List AV).length,
        ([AV.int .i64 (ae + be)] : List AV).length = 1,
        1 + 1 ≤ (List.take 0 [AV.int .i64 0, AV.int .i64 0] ++ [AV.int .i64 am] ++ List.drop 1 [AV.int .i64 0, AV.int .i64 0] : List AV).length,
        AV.agg (List.take 1 (List.take 0 [AV.int .i64 0, AV.int .i64 0] ++ [AV.int .i64 am] ++ List.drop 1 [AV.int .i64 0, AV.int .i64 0]) ++ [AV.int .i64 (ae + be)] ++ List.drop 2 (List.take 0 [AV.int .i64 0, AV.int .i64 0] ++ [AV.int .i64 am] ++ List.drop 1 [AV.int .i64 0, AV.int .i64 0])) = AV.agg [AV.int .i64 am, AV.int .i64 (ae + be)],
        [AV.agg [AV.int .i64 am, AV.int .i64 (ae + be)]] = renL [] [AV.agg [AV.int .i64 am, AV.int .i64 (ae + be)]],
        Meets Try.prog 33 [AV.agg [AV.int .i64 am, AV.int .i64 (ae + be)]] [] (AV.agg ((AV.bool (decide (am < 0))) :: (ints .u8 (digs 88 (aV am (ae + be)))))) [],
        AV.ren [] (AV.agg ((AV.bool (decide (am < 0))) :: (ints .u8 (digs 88 (aV am (ae + be)))))) = AV.agg ((AV.bool (decide (am < 0))) :: (ints .u8 (digs 88 (aV am (ae + be))))),
        0 ≤ 2,
        ([AV.int .i64 am, AV.int .i64 ae, AV.int .i64 bm, AV.int .i64 be] : List AV)[2 - 0]? = some (AV.int .i64 bm),
        [AV.int .i64 bm] = renL [] [AV.int .i64 bm],
        Meets Try.prog 52 [AV.int .i64 bm] [] (AV.int .i64 ((bm.natAbs : Nat) : Int)) [],
        [AV.agg ((AV.bool (decide (am < 0))) :: (ints .u8 (digs 88 (aV am (ae + be))))), AV.int .i64 ((bm.natAbs : Nat) : Int)] = renL [] [AV.agg ((AV.bool (decide (am < 0))) :: (ints .u8 (digs 88 (aV am (ae + be))))), AV.int .i64 ((bm.natAbs : Nat) : Int)],
        Meets Try.prog 75 [AV.agg ((AV.bool (decide (am < 0))) :: (ints .u8 (digs 88 (aV am (ae + be))))), AV.int .i64 ((bm.natAbs : Nat) : Int)] [] (AV.agg ((AV.bool (decide (am < 0))) :: (ints .u8 (digs 88 (mulV am ae bm be))))) [],
        AV.ren [] (AV.agg ((AV.bool (decide (am < 0))) :: (ints .u8 (digs 88 (mulV am ae bm be))))) = AV.agg ((AV.bool (decide (am < 0))) :: (ints .u8 (digs 88 (mulV am ae bm be)))),
        AObj.cells (zeroCellsA Try.prog 50) 50 = AObj.cells ((AV.bool false) :: (ints .u8 (List.replicate 88 0))) 50,
        ((AV.bool (decide (am < 0))) :: (ints .u8 (digs 88 (mulV am ae bm be))) : List AV).length = 89,
        0 + 89 ≤ List.length ((AV.bool false) :: (ints .u8 (List.replicate 88 0))),
        AObj.cells (List.take 0 ((AV.bool false) :: (ints .u8 (List.replicate 88 0))) ++ ((AV.bool (decide (am < 0))) :: (ints .u8 (digs 88 (mulV am ae bm be)))) ++ List.drop (0 + 89) ((AV.bool false) :: (ints .u8 (List.replicate 88 0)))) 50 = AObj.cells ((AV.bool (decide (am < 0))) :: (ints .u8 (digs 88 (mulV am ae bm be)))) 50,
        0 ≤ 0,
        0 - 0 + 4 ≤ List.length [AV.int .i64 am, AV.int .i64 ae, AV.int .i64 bm, AV.int .i64 be],
        List.take 4 (List.drop (0 - 0) [AV.int .i64 am, AV.int .i64 ae, AV.int .i64 bm, AV.int .i64 be]) = [AV.int .i64 am, AV.int .i64 ae, AV.int .i64 bm, AV.int .i64 be],
        [AV.agg [AV.int .i64 am, AV.int .i64 ae, AV.int .i64 bm, AV.int .i64 be]] = renL [] [AV.agg [AV.int .i64 am, AV.int .i64 ae, AV.int .i64 bm, AV.int .i64 be]],
        Meets Try.prog 76 [AV.agg [AV.int .i64 am, AV.int .i64 ae, AV.int .i64 bm, AV.int .i64 be]] [] (AV.bool (unlikeB am bm)) [],
        ([AV.bool (unlikeB am bm)] : List AV).length = 1,
        0 + 1 ≤ List.length ((AV.bool (decide (am < 0))) :: (ints .u8 (digs 88 (mulV am ae bm be)))),
        AObj.cells (List.take 0 ((AV.bool (decide (am < 0))) :: (ints .u8 (digs 88 (mulV am ae bm be)))) ++ [AV.bool (unlikeB am bm)] ++ List.drop (0 + 1) ((AV.bool (decide (am < 0))) :: (ints .u8 (digs 88 (mulV am ae bm be))))) 50 = AObj.cells ((AV.bool (unlikeB am bm)) :: (ints .u8 (digs 88 (mulV am ae bm be)))) 50,
        0 ≤ 0,
        0 - 0 + 89 ≤ List.length ((AV.bool (unlikeB am bm)) :: (ints .u8 (digs 88 (mulV am ae bm be)))),
        List.take 89 (List.drop (0 - 0) ((AV.bool (unlikeB am bm)) :: (ints .u8 (digs 88 (mulV am ae bm be))))) = (AV.bool (unlikeB am bm)) :: (ints .u8 (digs 88 (mulV am ae bm be))),
        ((AV.bool (unlikeB am bm)) :: (ints .u8 (digs 88 (mulV am ae bm be))) : List AV).length = 89,
        0 + 89 ≤ List.length ((AV.bool false) :: (ints .u8 (List.replicate 88 0))),
        AObj.cells (List.take 0 ((AV.bool false) :: (ints .u8 (List.replicate 88 0))) ++ ((AV.bool (unlikeB am bm)) :: (ints .u8 (digs 88 (mulV am ae bm be)))) ++ List.drop (0 + 89) ((AV.bool false) :: (ints .u8 (List.replicate 88 0)))) 50 = AObj.cells ((AV.bool (unlikeB am bm)) :: (ints .u8 (digs 88 (mulV am ae bm be)))) 50],
      .ret, ⟨[some (AV.agg [AV.int .i64 am, AV.int .i64 ae, AV.int .i64 bm, AV.int .i64 be]), some (AV.ptr 0 0), some (AV.ptr 1 0), some (AV.ptr 2 0), some (AV.ptr 0 0), some (AV.ptr 0 0), some (AV.int .i64 am), some (AV.ptr 0 0), some (AV.ptr 0 1), some (AV.int .i64 ae), some (AV.ptr 0 2), some (AV.ptr 0 3), some (AV.int .i64 be), some (AV.int .i64 (ae + be)), some (AV.agg [AV.int .i64 am, AV.int .i64 (ae + be)]), some (AV.agg ((AV.bool (decide (am < 0))) :: (ints .u8 (digs 88 (aV am (ae + be)))))), some (AV.ptr 0 2), some (AV.ptr 0 2), some (AV.int .i64 bm), some (AV.int .i64 ((bm.natAbs : Nat) : Int)), some (AV.agg ((AV.bool (decide (am < 0))) :: (ints .u8 (digs 88 (mulV am ae bm be))))), some (AV.agg [AV.int .i64 am, AV.int .i64 ae, AV.int .i64 bm, AV.int .i64 be]), some (AV.bool (unlikeB am bm)), some (AV.ptr 2 0), some (AV.agg ((AV.bool (unlikeB am bm)) :: (ints .u8 (digs 88 (mulV am ae bm be)))))], [some (AObj.cells [AV.int .i64 am, AV.int .i64 ae, AV.int .i64 bm, AV.int .i64 be] 65), some (AObj.cells ((AV.bool (unlikeB am bm)) :: (ints .u8 (digs 88 (mulV am ae bm be)))) 50), some (AObj.cells ((AV.bool (unlikeB am bm)) :: (ints .u8 (digs 88 (mulV am ae bm be)))) 50)]⟩, []⟩)
    (ob := [0 ≤ 0,
        0 - 0 + 89 ≤ List.length ((AV.bool (unlikeB am bm)) :: (ints .u8 (digs 88 (mulV am ae bm be)))),
        List.take 89 (List.drop (0 - 0) ((AV.bool (unlikeB am bm)) :: (ints .u8 (digs 88 (mulV am ae bm be))))) = (AV.bool (unlikeB am bm)) :: (ints .u8 (digs 88 (mulV am ae bm be))),
        AV.agg ((AV.bool (unlikeB am bm)) :: (ints .u8 (digs 88 (mulV am ae bm be)))) = AV.agg ((AV.bool (unlikeB am bm)) :: (ints .u8 (digs 88 (mulV am ae bm be)))),
        Avoid (fun n => decide (0 ≤ n)) (AV.agg ((AV.bool (unlikeB am bm)) :: (ints .u8 (digs 88 (mulV am ae bm be)))))])
    Try.func55 (by kernel_rfl) Try.call55 (by kernel_rfl)
    ⟨by kernel_rfl, Nat.zero_le _, rfl, Nat.zero_le _, rfl, Nat.zero_le _, rfl, wI (by omega), rfl, Nat.le_of_ble_eq_true (by kernel_rfl), rfl, Nat.le_of_ble_eq_true (by kernel_rfl), by kernel_rfl, rfl, lay_meets am (ae + be) _ (by omega) (by omega) (digs_aV _ _), by simp only [renL, AV.ren, renL_ints, renL_u8s, renL_append], Nat.zero_le _, rfl, rfl, size_meets bm (by omega), by simp only [renL, AV.ren, renL_ints, renL_u8s, renL_append], times_meets _ _ (by omega) _ (digs_dig _ _) (digs_length _ _) _ (mulV_digs ham hae hbm hbe), by simp only [renL, AV.ren, renL_ints, renL_u8s, renL_append], by kernel_rfl, (by simp only [List.length_cons, List.length_nil, List.length_append, ints_length, u8s_length, List.length_replicate, List.length_set, List.length_map, digs_length] <;> omega), (by simp only [List.length_cons, List.length_nil, List.length_append, ints_length, u8s_length, List.length_replicate, List.length_set, List.length_map, digs_length] <;> omega), store_whole (by simp only [List.length_cons, List.length_nil, List.length_append, ints_length, u8s_length, List.length_replicate, List.length_set, List.length_map, digs_length] <;> omega), Nat.zero_le _, Nat.le_of_ble_eq_true rfl, rfl, rfl, unlike_meets am ae bm be, rfl, (by simp only [List.length_cons, List.length_nil, List.length_append, ints_length, u8s_length, List.length_replicate, List.length_set, List.length_map, digs_length] <;> omega), rfl, Nat.zero_le _, (by simp only [List.length_cons, List.length_nil, List.length_append, ints_length, u8s_length, List.length_replicate, List.length_set, List.length_map, digs_length] <;> omega), whole_cells (by simp only [List.length_cons, List.length_nil, List.length_append, ints_length, u8s_length, List.length_replicate, List.length_set, List.length_map, digs_length] <;> omega), (by simp only [List.length_cons, List.length_nil, List.length_append, ints_length, u8s_length, List.length_replicate, List.length_set, List.length_map, digs_length] <;> omega), (by simp only [List.length_cons, List.length_nil, List.length_append, ints_length, u8s_length, List.length_replicate, List.length_set, List.length_map, digs_length] <;> omega), store_whole (by simp only [List.length_cons, List.length_nil, List.length_append, ints_length, u8s_length, List.length_replicate, List.length_set, List.length_map, digs_length] <;> omega), trivial⟩
    (.inl rfl) (by kernel_rfl) ⟨Nat.zero_le _, (by simp only [List.length_cons, List.length_nil, List.length_append, ints_length, u8s_length, List.length_replicate, List.length_set, List.length_map, digs_length] <;> omega), whole_cells (by simp only [List.length_cons, List.length_nil, List.length_append, ints_length, u8s_length, List.length_replicate, List.length_set, List.length_map, digs_length] <;> omega), rfl, Avoid.agg (AvoidL.cons (Avoid.bool _ _) (AvoidL.ints _ _ _)), trivial⟩

theorem digs_put {n q : Nat} {h d : Int} (hq : q < n) (hd : 0 ≤ d ∧ d ≤ 9) : (digs n (h * 10 ^ (q + 1))).set (n - 1 - q) d = digs n (h * 10 ^ (q + 1) + d * 10 ^ q) := by
  have e1 := digs_add q (n - q) (h * 10 ^ (q + 1))
  have e2 := digs_add q (n - q) (h * 10 ^ (q + 1) + d * 10 ^ q)
  rw [show n - q + q = n by omega] at e1 e2
  have hp := pow_pos' q
  have q1 : h * 10 ^ (q + 1) / 10 ^ q = h * 10 := by rw [Int.pow_succ, Int.mul_comm (10 ^ q) 10, ← Int.mul_assoc, Int.mul_ediv_cancel _ (by omega)]
  have q2 : (h * 10 ^ (q + 1) + d * 10 ^ q) / 10 ^ q = h * 10 + d := by rw [Int.add_mul_ediv_right _ _ (by omega), q1]
  have m2 : digs q (h * 10 ^ (q + 1) + d * 10 ^ q) = digs q (h * 10 ^ (q + 1)) := by
    rw [← digs_mod q (h * 10 ^ (q + 1) + d * 10 ^ q), ← digs_mod q (h * 10 ^ (q + 1)), Int.add_mul_emod_self_right]
  rw [e1, e2, q1, q2, m2]
  obtain ⟨m, hm⟩ : ∃ m, n - q = m + 1 := ⟨n - q - 1, by omega⟩
  rw [hm, List.set_append_left _ _ (by rw [digs_length]; omega)]
  congr 1
  rw [digs, digs, show n - 1 - q = m by omega, List.set_append_right _ _ (by rw [digs_length]; omega), digs_length]
  rw [show h * 10 / 10 = h by omega, show (h * 10 + d) / 10 = h by omega, show (h * 10 + d) % 10 = d by omega]
  simp
theorem mulmod (x b : Int) : x % b * 10 % b = x * 10 % b := by
  rw [Int.mul_emod x 10 b, Int.mul_emod (x % b) 10 b, Int.emod_emod_of_dvd x (Int.dvd_refl b)]
/-- The quotient's figures, cut off behind the fortieth. -/
def quoV (am ae bm be : Int) : Int := ((am.natAbs : Nat) : Int) * 10 ^ (ae - be + 40).toNat / ((bm.natAbs : Nat) : Int)

def quo_inv (am ae bm be b : Int) (mx : Bool) (r : Int) (ds : List Int) (k : Int) : AState :=
  ⟨[none, none, some (AV.ptr 1 0), some (AV.int .i64 r), some (AV.int .i64 b), none, some (AV.ptr 2 0), some (AV.int .i64 k), none, none, none, none, none, none, none, none, none, none, none, none, none, none, none, none, none, none, none, none, none, none, none, none, none, none, none, none, none, none, none, none, none, none, none, none, none, none, none, none, none, none], [some (AObj.cells [AV.int .i64 am, AV.int .i64 ae, AV.int .i64 bm, AV.int .i64 be] 65), some (AObj.cells ((AV.bool false) :: (ints .u8 (List.replicate 88 0))) 50), some (AObj.cells ((AV.bool mx) :: (ints .u8 ds)) 50)]⟩

theorem quo_round (am ae bm be b : Int) (mx : Bool) (r : Int) (ds : List Int) (k : Nat) (hl : ds.length = 88) (hk : k < 88) (hb : 0 < b ∧ b < 1000000000000000) (hr : 0 ≤ r ∧ r < 100000000000000000) (hm : 0 ≤ r % b ∧ r % b < b) (hd : 0 ≤ r % b * 10 / b ∧ r % b * 10 / b ≤ 9) : Tri Try.prog (loopN (bodyOf Try.f57) 0) (quo_inv am ae bm be b mx r ds k) .normal (quo_inv am ae bm be b mx (r % b * 10) (ds.set k (r % b * 10 / b)) ((k + 1 : Nat) : Int)) := by
  exact Tri.weak (ob := [AV.ptr 1 0 = AV.ptr 1 0,
        AV.int .i64 ((r % b) * 10) = AV.int .i64 (r % b * 10),
        AV.int .i64 b = AV.int .i64 b,
        AV.ptr 2 0 = AV.ptr 2 0,
        AV.int .i64 ((k + 1 : Nat) : Int) = AV.int .i64 ((k + 1 : Nat) : Int),
        AObj.cells [AV.int .i64 am, AV.int .i64 ae, AV.int .i64 bm, AV.int .i64 be] 65 = AObj.cells [AV.int .i64 am, AV.int .i64 ae, AV.int .i64 bm, AV.int .i64 be] 65,
        AObj.cells ((AV.bool false) :: (ints .u8 (List.replicate 88 0))) 50 = AObj.cells ((AV.bool false) :: (ints .u8 (List.replicate 88 0))) 50,
        AObj.cells ((AV.bool mx) :: (ints .u8 (ds.set k (r % b * 10 / b)))) 50 = AObj.cells ((AV.bool mx) :: (ints .u8 (ds.set k (r % b * 10 / b)))) 50]) (exec_sound _ [.reg [(1, {val := some (AV.bool true)})], .reg [(2, {val := some (AV.int .i64 (r % b))}), (3, {val := some (AV.int .i64 ((r % b) * 10))})], .reg [(3, {val := some (AV.int .i64 (r % b * 10 / b))}), (4, {val := some (AV.int .u8 (r % b * 10 / b))}), (6, {val := some (AV.ptr 2 (k + 1))}), (7, {obj := some [AObj.cells ((AV.bool mx) :: (ints .u8 (ds.set k (r % b * 10 / b)))) 50]})], .reg [(1, {val := some (AV.int .i64 ((k + 1 : Nat) : Int))})]] _
    ⟨[AV.bool (decide (((k : Nat) : Int) < 88)) = AV.bool true,
        b ≠ 0,
        AV.int .i64 (r.tmod b) = AV.int .i64 (r % b),
        AV.int .i64 (IntKind.i64.wrap ((r % b) * 10)) = AV.int .i64 ((r % b) * 10),
        b ≠ 0,
        AV.int .i64 (IntKind.i64.wrap (((r % b) * 10).tdiv b)) = AV.int .i64 (r % b * 10 / b),
        AV.int .u8 (IntKind.u8.wrap (r % b * 10 / b)) = AV.int .u8 (r % b * 10 / b),
        0 ≤ ((k : Nat) : Int),
        ((k : Nat) : Int) < ((88 : Nat) : Int),
        AV.ptr 2 (1 + Int.toNat ((k : Nat) : Int) * 1) = AV.ptr 2 (k + 1),
        ([AV.int .u8 (r % b * 10 / b)] : List AV).length = 1,
        (k + 1) + 1 ≤ List.length ((AV.bool mx) :: (ints .u8 ds)),
        AObj.cells (List.take (k + 1) ((AV.bool mx) :: (ints .u8 ds)) ++ [AV.int .u8 (r % b * 10 / b)] ++ List.drop ((k + 1) + 1) ((AV.bool mx) :: (ints .u8 ds))) 50 = AObj.cells ((AV.bool mx) :: (ints .u8 (ds.set k (r % b * 10 / b)))) 50,
        AV.int .i64 (IntKind.i64.wrap (((k : Nat) : Int) + 1)) = AV.int .i64 ((k + 1 : Nat) : Int)],
      .normal, ⟨[none, none, some (AV.ptr 1 0), some (AV.int .i64 ((r % b) * 10)), some (AV.int .i64 b), none, some (AV.ptr 2 0), some (AV.int .i64 ((k + 1 : Nat) : Int)), none, none, none, none, none, none, none, none, none, none, none, none, none, none, none, none, none, none, none, none, none, none, none, none, none, none, some (AV.int .i64 ((k : Nat) : Int)), some (AV.bool true), some (AV.int .i64 ((k : Nat) : Int)), some (AV.int .i64 ((k + 1 : Nat) : Int)), some (AV.int .i64 r), some (AV.int .i64 b), some (AV.int .i64 (r % b)), some (AV.int .i64 ((r % b) * 10)), some (AV.int .i64 ((k : Nat) : Int)), some (AV.int .i64 ((r % b) * 10)), some (AV.int .i64 b), some (AV.int .i64 (r % b * 10 / b)), some (AV.int .u8 (r % b * 10 / b)), some (AV.ptr 2 1), some (AV.ptr 2 (k + 1)), none], [some (AObj.cells [AV.int .i64 am, AV.int .i64 ae, AV.int .i64 bm, AV.int .i64 be] 65), some (AObj.cells ((AV.bool false) :: (ints .u8 (List.replicate 88 0))) 50), some (AObj.cells ((AV.bool mx) :: (ints .u8 (ds.set k (r % b * 10 / b)))) 50)]⟩, []⟩ (by kernel_rfl)
    ⟨bT (by omega), by omega, remI ⟨hr.1, rfl⟩, wI (by omega), by omega, quoI ⟨by omega, by omega, by omega, rfl⟩, w_u8 (by omega), by omega, by omega, ptrE (by omega), rfl, (by simp only [List.length_cons, List.length_nil, List.length_append, ints_length, u8s_length, List.length_replicate, List.length_set, List.length_map, digs_length] <;> omega), store_ints [AV.bool mx] (by omega), wI (by omega), trivial⟩) (by kernel_rfl)
    ⟨rfl, rfl, rfl, rfl, rfl, rfl, rfl, rfl, trivial⟩

def quo_out (am ae bm be : Int) (mx : Bool) (ds : List Int) : AState :=
  ⟨[none, none, some (AV.ptr 1 0), none, none, none, some (AV.ptr 2 0), none, none, none, none, none, none, none, none, none, none, none, none, none, none, none, none, none, none, none, none, none, none, none, none, none, none, none, none, none, none, none, none, none, none, none, none, none, none, none, none, none, none, none], [some (AObj.cells [AV.int .i64 am, AV.int .i64 ae, AV.int .i64 bm, AV.int .i64 be] 65), some (AObj.cells ((AV.bool false) :: (ints .u8 (List.replicate 88 0))) 50), some (AObj.cells ((AV.bool mx) :: (ints .u8 ds)) 50)]⟩

theorem quo_last (am ae bm be b : Int) (mx : Bool) (r : Int) (ds : List Int) : Tri Try.prog (loopN (bodyOf Try.f57) 0) (quo_inv am ae bm be b mx r ds 88) (.exit 0) (quo_out am ae bm be mx ds) := by
  exact Tri.weak (ob := [AV.ptr 1 0 = AV.ptr 1 0,
        AV.ptr 2 0 = AV.ptr 2 0,
        AObj.cells [AV.int .i64 am, AV.int .i64 ae, AV.int .i64 bm, AV.int .i64 be] 65 = AObj.cells [AV.int .i64 am, AV.int .i64 ae, AV.int .i64 bm, AV.int .i64 be] 65,
        AObj.cells ((AV.bool false) :: (ints .u8 (List.replicate 88 0))) 50 = AObj.cells ((AV.bool false) :: (ints .u8 (List.replicate 88 0))) 50,
        AObj.cells ((AV.bool mx) :: (ints .u8 ds)) 50 = AObj.cells ((AV.bool mx) :: (ints .u8 ds)) 50]) (exec_sound _ [.reg [(1, {val := some (AV.bool false)})]] _
    ⟨[AV.bool (decide ((88 : Int) < 88)) = AV.bool false],
      .exit 0, ⟨[none, none, some (AV.ptr 1 0), some (AV.int .i64 r), some (AV.int .i64 b), none, some (AV.ptr 2 0), some (AV.int .i64 88), none, none, none, none, none, none, none, none, none, none, none, none, none, none, none, none, none, none, none, none, none, none, none, none, none, none, some (AV.int .i64 88), some (AV.bool false), none, none, none, none, none, none, none, none, none, none, none, none, none, none], [some (AObj.cells [AV.int .i64 am, AV.int .i64 ae, AV.int .i64 bm, AV.int .i64 be] 65), some (AObj.cells ((AV.bool false) :: (ints .u8 (List.replicate 88 0))) 50), some (AObj.cells ((AV.bool mx) :: (ints .u8 ds)) 50)]⟩, []⟩ (by kernel_rfl)
    ⟨boolE (by decide), trivial⟩) (by kernel_rfl)
    ⟨rfl, rfl, rfl, rfl, rfl, trivial⟩

theorem quo_loop (am ae bm be A b : Int) (mx : Bool) (hb : 0 < b ∧ b < 1000000000000000) (hA : 0 ≤ A ∧ A < 1000000000000000) (T : Nat) (hT : T ≤ 88) :
    Tri Try.prog (.loop (loopN (bodyOf Try.f57) 0)) (quo_inv am ae bm be b mx A (digs 88 (A / b * 10 ^ T)) ((88 - T : Nat) : Int)) (.exit 0) (quo_out am ae bm be mx (digs 88 (A * 10 ^ T / b))) := by
  have main := tri_loop (P := Try.prog) (body := loopN (bodyOf Try.f57) 0) (out := quo_out am ae bm be mx (digs 88 (A * 10 ^ T / b))) (ι := {q : Nat × Int // q.1 ≤ T ∧ (0 ≤ q.2 ∧ q.2 < 100000000000000000) ∧ q.2 % b = A * 10 ^ (T - q.1) % b}) (fun i => quo_inv am ae bm be b mx i.1.2 (digs 88 (A * 10 ^ (T - i.1.1) / b * 10 ^ i.1.1)) ((88 - i.1.1 : Nat) : Int)) (fun i => i.1.1) (ne_normal_exit 0) (by
    rintro ⟨⟨p, r⟩, h1, h2, h3⟩
    simp only at h1 h2 h3
    cases p with
    | zero =>
      refine .inr ?_
      have := quo_last am ae bm be b mx r (digs 88 (A * 10 ^ T / b))
      simpa using this
    | succ p =>
      have hm := Int.emod_nonneg r (by omega : b ≠ 0)
      have hm2 := Int.emod_lt_of_pos r hb.1
      have hd : 0 ≤ r % b * 10 / b ∧ r % b * 10 / b ≤ 9 := ⟨Int.ediv_nonneg (by omega) (by omega), Int.le_of_lt_add_one (Int.ediv_lt_of_lt_mul hb.1 (by omega))⟩
      refine .inl ⟨⟨(p, r % b * 10), by simp only; omega, by simp only; omega, ?_⟩, Nat.lt_succ_self p, ?_⟩
      · simp only
        rw [show T - p = T - (p + 1) + 1 by omega, Int.pow_succ, ← Int.mul_assoc, ← mulmod (A * 10 ^ (T - (p + 1))), ← h3]
      · have hr := quo_round am ae bm be b mx r (digs 88 (A * 10 ^ (T - (p + 1)) / b * 10 ^ (p + 1))) (88 - (p + 1)) (digs_length _ _) (by omega) hb h2 ⟨hm, hm2⟩ hd
        rw [show (88 - (p + 1) : Nat) = 88 - 1 - p by omega, digs_put (by omega) hd, show 88 - 1 - p + 1 = 88 - p by omega] at hr
        have e : A * 10 ^ (T - (p + 1)) / b * 10 ^ (p + 1) + r % b * 10 / b * 10 ^ p = A * 10 ^ (T - p) / b * 10 ^ p := by
          rw [Int.pow_succ 10 p, Int.mul_comm (10 ^ p) 10, ← Int.mul_assoc, ← Int.add_mul]
          congr 1
          rw [h3, show T - p = T - (p + 1) + 1 by omega, Int.pow_succ, ← Int.mul_assoc]
          generalize A * 10 ^ (T - (p + 1)) = x
          have e1 := Int.mul_ediv_add_emod x b
          have e2 : x * 10 = x % b * 10 + x / b * 10 * b := by
            have : x / b * 10 * b = b * (x / b) * 10 := by rw [Int.mul_comm b, Int.mul_assoc, Int.mul_comm 10 b, Int.mul_assoc]
            omega
          rw [e2, Int.add_mul_ediv_right _ _ (by omega)]; omega
        rw [e] at hr
        simpa using hr) ⟨(T, A), Nat.le_refl _, by simp only; omega, by simp⟩
  simpa using main

end Go.Proofs.Ytabgphldbgdbpaa
