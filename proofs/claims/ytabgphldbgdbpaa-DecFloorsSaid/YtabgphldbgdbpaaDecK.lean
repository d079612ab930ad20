import Derived.Test.YtabgphldbgdbpaaDecJ
set_option linter.unusedVariables false
set_option linter.unusedSimpArgs false
set_option maxRecDepth 20000
namespace Go.Proofs.Ytabgphldbgdbpaa
open Go Sx Dc

theorem aV_nonneg {m e : Int} (h : 0 ≤ m) : aV m e = m * 10 ^ (e + 40).toNat := by
  unfold aV; rw [show ((m.natAbs : Nat) : Int) = m by omega]
theorem quo_facts {A B : Int} (hA : 0 ≤ A ∧ A < 1000000000000000) (hB : 0 < B) : 0 ≤ A / B ∧ A / B < 1000000000000000 := ⟨Int.ediv_nonneg hA.1 (by omega), by have := Int.ediv_le_self B hA.1; omega⟩

theorem quotient_meets (am ae bm be : Int) (ham : -1000000000000000 < am ∧ am < 1000000000000000) (hae : -9 ≤ ae ∧ ae ≤ 9) (hbm : -1000000000000000 < bm ∧ bm < 1000000000000000) (hbe : -9 ≤ be ∧ be ≤ 9) (hb0 : bm ≠ 0) : Meets Try.prog 57 [AV.agg [AV.int .i64 am, AV.int .i64 ae, AV.int .i64 bm, AV.int .i64 be]] [] (AV.agg ((AV.bool (unlikeB am bm)) :: (ints .u8 (digs 88 (quoV am ae bm be))))) [] := by
  have hq := quo_facts (A := ((am.natAbs : Nat) : Int)) (B := ((bm.natAbs : Nat) : Int)) (by omega) (by omega)
  have hl := quo_loop am ae bm be ((am.natAbs : Nat) : Int) ((bm.natAbs : Nat) : Int) (unlikeB am bm) (by omega) (by omega) (ae - be + 40).toNat (by omega)
  have e0 : digs 88 (aV (((am.natAbs : Nat) : Int) / ((bm.natAbs : Nat) : Int)) (ae - be)) = digs 88 (((am.natAbs : Nat) : Int) / ((bm.natAbs : Nat) : Int) * 10 ^ (ae - be + 40).toNat) := by rw [aV_nonneg hq.1]
  exact meets_of_exec (fn := Try.f57) 3 [.reg [(0, {nm := [0]}), (1, {nm := [1], obj := some [AObj.cells ((AV.bool false) :: (ints .u8 (List.replicate 88 0))) 50]})], .reg [(2, {val := some (AV.int .i64 am)}), (3, {call := some ⟨[], [AV.int .i64 am], [], AV.int .i64 ((am.natAbs : Nat) : Int), []⟩}), (6, {val := some (AV.int .i64 bm)}), (7, {call := some ⟨[], [AV.int .i64 bm], [], AV.int .i64 ((bm.natAbs : Nat) : Int), []⟩}), (10, {val := some (AV.int .i64 ae)}), (13, {val := some (AV.int .i64 be)}), (14, {val := some (AV.int .i64 (ae - be))})], .reg [(2, {val := some (AV.int .i64 (((am.natAbs : Nat) : Int) / ((bm.natAbs : Nat) : Int)))}), (4, {val := some (AV.agg [AV.int .i64 (((am.natAbs : Nat) : Int) / ((bm.natAbs : Nat) : Int)), AV.int .i64 (ae - be)])}), (5, {call := some ⟨[], [AV.agg [AV.int .i64 (((am.natAbs : Nat) : Int) / ((bm.natAbs : Nat) : Int)), AV.int .i64 (ae - be)]], [], AV.agg ((AV.bool (decide ((((am.natAbs : Nat) : Int) / ((bm.natAbs : Nat) : Int)) < 0))) :: (ints .u8 (digs 88 (aV (((am.natAbs : Nat) : Int) / ((bm.natAbs : Nat) : Int)) (ae - be))))), []⟩, val := some (AV.agg ((AV.bool (decide ((((am.natAbs : Nat) : Int) / ((bm.natAbs : Nat) : Int)) < 0))) :: (ints .u8 (digs 88 (aV (((am.natAbs : Nat) : Int) / ((bm.natAbs : Nat) : Int)) (ae - be))))))}), (6, {nm := [2], obj := some [AObj.cells ((AV.bool false) :: (ints .u8 (List.replicate 88 0))) 50]}), (7, {obj := some [AObj.cells ((AV.bool (decide ((((am.natAbs : Nat) : Int) / ((bm.natAbs : Nat) : Int)) < 0))) :: (ints .u8 (digs 88 (aV (((am.natAbs : Nat) : Int) / ((bm.natAbs : Nat) : Int)) (ae - be))))) 50]})], .reg [(0, {val := some (AV.agg [AV.int .i64 am, AV.int .i64 ae, AV.int .i64 bm, AV.int .i64 be])}), (1, {call := some ⟨[], [AV.agg [AV.int .i64 am, AV.int .i64 ae, AV.int .i64 bm, AV.int .i64 be]], [], AV.bool (unlikeB am bm), []⟩}), (3, {obj := some [AObj.cells ((AV.bool (unlikeB am bm)) :: (ints .u8 (digs 88 (aV (((am.natAbs : Nat) : Int) / ((bm.natAbs : Nat) : Int)) (ae - be))))) 50]})], .reg [(1, {val := some (AV.int .i64 (48 - (ae - be)))})], .loop (⟨[none, none, some (AV.ptr 1 0), some (AV.int .i64 ((am.natAbs : Nat) : Int)), some (AV.int .i64 ((bm.natAbs : Nat) : Int)), none, some (AV.ptr 2 0), some (AV.int .i64 (((88 - (ae - be + 40).toNat) : Nat) : Int)), none, none, none, none, none, none, none, none, none, none, none, none, none, none, none, none, none, none, none, none, none, none, none, none, none, none, none, none, none, none, none, none, none, none, none, none, none, none, none, none, none, none], [some (AObj.cells [AV.int .i64 am, AV.int .i64 ae, AV.int .i64 bm, AV.int .i64 be] 65), some (AObj.cells ((AV.bool false) :: (ints .u8 (List.replicate 88 0))) 50), some (AObj.cells ((AV.bool (unlikeB am bm)) :: (ints .u8 (digs 88 (((am.natAbs : Nat) : Int) / ((bm.natAbs : Nat) : Int) * 10 ^ (ae - be + 40).toNat)))) 50)]⟩) (.exit 0) (⟨[none, none, some (AV.ptr 1 0), none, none, none, some (AV.ptr 2 0), none, none, none, none, none, none, none, none, none, none, none, none, none, none, none, none, none, none, none, none, none, none, none, none, none, none, none, none, none, none, none, none, none, none, none, none, none, none, none, none, none, none, none], [some (AObj.cells [AV.int .i64 am, AV.int .i64 ae, AV.int .i64 bm, AV.int .i64 be] 65), some (AObj.cells ((AV.bool false) :: (ints .u8 (List.replicate 88 0))) 50), some (AObj.cells ((AV.bool (unlikeB am bm)) :: (ints .u8 (digs 88 (quoV am ae bm be)))) 50)]⟩), .reg [(0, {val := some (AV.agg ((AV.bool (unlikeB am bm)) :: (ints .u8 (digs 88 (quoV am ae bm be)))))}), (1, {obj := some [AObj.cells ((AV.bool (unlikeB am bm)) :: (ints .u8 (digs 88 (quoV am ae bm be)))) 50]})]] [{val := some (AV.agg ((AV.bool (unlikeB am bm)) :: (ints .u8 (digs 88 (quoV am ae bm be)))))}]
    (r := ⟨[AObj.cells (zeroCellsA Try.prog 50) 50 = AObj.cells ((AV.bool false) :: (ints .u8 (List.replicate 88 0))) 50,
        0 ≤ 0,
        ([AV.int .i64 am, AV.int .i64 ae, AV.int .i64 bm, AV.int .i64 be] : List AV)[0 - 0]? = some (AV.int .i64 am),
        [AV.int .i64 am] = renL [] [AV.int .i64 am],
        Meets Try.prog 52 [AV.int .i64 am] [] (AV.int .i64 ((am.natAbs : Nat) : Int)) [],
        0 ≤ 2,
        ([AV.int .i64 am, AV.int .i64 ae, AV.int .i64 bm, AV.int .i64 be] : List AV)[2 - 0]? = some (AV.int .i64 bm),
        [AV.int .i64 bm] = renL [] [AV.int .i64 bm],
        Meets Try.prog 52 [AV.int .i64 bm] [] (AV.int .i64 ((bm.natAbs : Nat) : Int)) [],
        0 ≤ 1,
        ([AV.int .i64 am, AV.int .i64 ae, AV.int .i64 bm, AV.int .i64 be] : List AV)[1 - 0]? = some (AV.int .i64 ae),
        0 ≤ 3,
        ([AV.int .i64 am, AV.int .i64 ae, AV.int .i64 bm, AV.int .i64 be] : List AV)[3 - 0]? = some (AV.int .i64 be),
        AV.int .i64 (IntKind.i64.wrap (ae - be)) = AV.int .i64 (ae - be),
        ((bm.natAbs : Nat) : Int) ≠ 0,
        AV.int .i64 (IntKind.i64.wrap (((am.natAbs : Nat) : Int).tdiv ((bm.natAbs : Nat) : Int))) = AV.int .i64 (((am.natAbs : Nat) : Int) / ((bm.natAbs : Nat) : Int)),
        ([AV.int .i64 (((am.natAbs : Nat) : Int) / ((bm.natAbs : Nat) : Int))] : List AV).length = 1,
        0 + 1 ≤ ([AV.int .i64 0, AV.int .i64 0] : List AV).length,
        ([AV.int .i64 (ae - be)] : List AV).length = 1,
        1 + 1 ≤ (List.take 0 [AV.int .i64 0, AV.int .i64 0] ++ [AV.int .i64 (((am.natAbs : Nat) : Int) / ((bm.natAbs : Nat) : Int))] ++ List.drop 1 [AV.int .i64 0, AV.int .i64 0] : List AV).length,
        AV.agg (List.take 1 (List.take 0 [AV.int .i64 0, AV.int .i64 0] ++ [AV.int .i64 (((am.natAbs : Nat) : Int) / ((bm.natAbs : Nat) : Int))] ++ List.drop 1 [AV.int .i64 0, AV.int .i64 0]) ++ [AV.int .i64 (ae - be)] ++ List.drop 2 (List.take 0 [AV.int .i64 0, AV.int .i64 0] ++ [AV.int .i64 (((am.natAbs : Nat) : Int) / ((bm.natAbs : Nat) : Int))] ++ List.drop 1 [AV.int .i64 0, AV.int .i64 0])) = AV.agg [AV.int .i64 (((am.natAbs : Nat) : Int) / ((bm.natAbs : Nat) : Int)), AV.int .i64 (ae - be)],
        [AV.agg [AV.int .i64 (((am.natAbs : Nat) : Int) / ((bm.natAbs : Nat) : Int)), AV.int .i64 (ae - be)]] = renL [] [AV.agg [AV.int .i64 (((am.natAbs : Nat) : Int) / ((bm.natAbs : Nat) : Int)), AV.int .i64 (ae - be)]],
        Meets Try.prog 33 [AV.agg [AV.int .i64 (((am.natAbs : Nat) : Int) / ((bm.natAbs : Nat) : Int)), AV.int .i64 (ae - be)]] [] (AV.agg ((AV.bool (decide ((((am.natAbs : Nat) : Int) / ((bm.natAbs : Nat) : Int)) < 0))) :: (ints .u8 (digs 88 (aV (((am.natAbs : Nat) : Int) / ((bm.natAbs : Nat) : Int)) (ae - be)))))) [],
        AV.ren [] (AV.agg ((AV.bool (decide ((((am.natAbs : Nat) : Int) / ((bm.natAbs : Nat) : Int)) < 0))) :: (ints .u8 (digs 88 (aV (((am.natAbs : Nat) : Int) / ((bm.natAbs : Nat) : Int)) (ae - be)))))) = AV.agg ((AV.bool (decide ((((am.natAbs : Nat) : Int) / ((bm.natAbs : Nat) : Int)) < 0))) :: (ints .u8 (digs 88 (aV (((am.natAbs : Nat) : Int) / ((bm.natAbs : Nat) : Int)) (ae - be))))),
        AObj.cells (zeroCellsA Try.prog 50) 50 = AObj.cells ((AV.bool false) :: (ints .u8 (List.replicate 88 0))) 50,
        ((AV.bool (decide ((((am.natAbs : Nat) : Int) / ((bm.natAbs : Nat) : Int)) < 0))) :: (ints .u8 (digs 88 (aV (((am.natAbs : Nat) : Int) / ((bm.natAbs : Nat) : Int)) (ae - be)))) : List AV).length = 89,
        0 + 89 ≤ List.length ((AV.bool false) :: (ints .u8 (List.replicate 88 0))),
        AObj.cells (List.take 0 ((AV.bool false) :: (ints .u8 (List.replicate 88 0))) ++ ((AV.bool (decide ((((am.natAbs : Nat) : Int) / ((bm.natAbs : Nat) : Int)) < 0))) :: (ints .u8 (digs 88 (aV (((am.natAbs : Nat) : Int) / ((bm.natAbs : Nat) : Int)) (ae - be))))) ++ List.drop (0 + 89) ((AV.bool false) :: (ints .u8 (List.replicate 88 0)))) 50 = AObj.cells ((AV.bool (decide ((((am.natAbs : Nat) : Int) / ((bm.natAbs : Nat) : Int)) < 0))) :: (ints .u8 (digs 88 (aV (((am.natAbs : Nat) : Int) / ((bm.natAbs : Nat) : Int)) (ae - be))))) 50,
        0 ≤ 0,
        0 - 0 + 4 ≤ List.length [AV.int .i64 am, AV.int .i64 ae, AV.int .i64 bm, AV.int .i64 be],
        List.take 4 (List.drop (0 - 0) [AV.int .i64 am, AV.int .i64 ae, AV.int .i64 bm, AV.int .i64 be]) = [AV.int .i64 am, AV.int .i64 ae, AV.int .i64 bm, AV.int .i64 be],
        [AV.agg [AV.int .i64 am, AV.int .i64 ae, AV.int .i64 bm, AV.int .i64 be]] = renL [] [AV.agg [AV.int .i64 am, AV.int .i64 ae, AV.int .i64 bm, AV.int .i64 be]],
        Meets Try.prog 76 [AV.agg [AV.int .i64 am, AV.int .i64 ae, AV.int .i64 bm, AV.int .i64 be]] [] (AV.bool (unlikeB am bm)) [],
        ([AV.bool (unlikeB am bm)] : List AV).length = 1,
        0 + 1 ≤ List.length ((AV.bool (decide ((((am.natAbs : Nat) : Int) / ((bm.natAbs : Nat) : Int)) < 0))) :: (ints .u8 (digs 88 (aV (((am.natAbs : Nat) : Int) / ((bm.natAbs : Nat) : Int)) (ae - be))))),
        AObj.cells (List.take 0 ((AV.bool (decide ((((am.natAbs : Nat) : Int) / ((bm.natAbs : Nat) : Int)) < 0))) :: (ints .u8 (digs 88 (aV (((am.natAbs : Nat) : Int) / ((bm.natAbs : Nat) : Int)) (ae - be))))) ++ [AV.bool (unlikeB am bm)] ++ List.drop (0 + 1) ((AV.bool (decide ((((am.natAbs : Nat) : Int) / ((bm.natAbs : Nat) : Int)) < 0))) :: (ints .u8 (digs 88 (aV (((am.natAbs : Nat) : Int) / ((bm.natAbs : Nat) : Int)) (ae - be)))))) 50 = AObj.cells ((AV.bool (unlikeB am bm)) :: (ints .u8 (digs 88 (aV (((am.natAbs : Nat) : Int) / ((bm.natAbs : Nat) : Int)) (ae - be))))) 50,
        AV.int .i64 (IntKind.i64.wrap (48 - (ae - be))) = AV.int .i64 (48 - (ae - be)),
        AV.ptr 1 0 = AV.ptr 1 0,
        AV.int .i64 ((am.natAbs : Nat) : Int) = AV.int .i64 ((am.natAbs : Nat) : Int),
        AV.int .i64 ((bm.natAbs : Nat) : Int) = AV.int .i64 ((bm.natAbs : Nat) : Int),
        AV.ptr 2 0 = AV.ptr 2 0,
        AV.int .i64 (48 - (ae - be)) = AV.int .i64 (((88 - (ae - be + 40).toNat) : Nat) : Int),
        AObj.cells [AV.int .i64 am, AV.int .i64 ae, AV.int .i64 bm, AV.int .i64 be] 65 = AObj.cells [AV.int .i64 am, AV.int .i64 ae, AV.int .i64 bm, AV.int .i64 be] 65,
        AObj.cells ((AV.bool false) :: (ints .u8 (List.replicate 88 0))) 50 = AObj.cells ((AV.bool false) :: (ints .u8 (List.replicate 88 0))) 50,
        AObj.cells ((AV.bool (unlikeB am bm)) :: (ints .u8 (digs 88 (aV (((am.natAbs : Nat) : Int) / ((bm.natAbs : Nat) : Int)) (ae - be))))) 50 = AObj.cells ((AV.bool (unlikeB am bm)) :: (ints .u8 (digs 88 (((am.natAbs : Nat) : Int) / ((bm.natAbs : Nat) : Int) * 10 ^ (ae - be + 40).toNat)))) 50,
        Tri Try.prog (.loop (loopN (bodyOf Try.f57) 0)) (⟨[none, none, some (AV.ptr 1 0), some (AV.int .i64 ((am.natAbs : Nat) : Int)), some (AV.int .i64 ((bm.natAbs : Nat) : Int)), none, some (AV.ptr 2 0), some (AV.int .i64 (((88 - (ae - be + 40).toNat) : Nat) : Int)), none, none, none, none, none, none, none, none, none, none, none, none, none, none, none, none, none, none, none, none, none, none, none, none, none, none, none, none, none, none, none, none, none, none, none, none, none, none, none, none, none, none], [some (AObj.cells [AV.int .i64 am, AV.int .i64 ae, AV.int .i64 bm, AV.int .i64 be] 65), some (AObj.cells ((AV.bool false) :: (ints .u8 (List.replicate 88 0))) 50), some (AObj.cells ((AV.bool (unlikeB am bm)) :: (ints .u8 (digs 88 (((am.natAbs : Nat) : Int) / ((bm.natAbs : Nat) : Int) * 10 ^ (ae - be + 40).toNat)))) 50)]⟩) (.exit 0) (⟨[none, none, some (AV.ptr 1 0), none, none, none, some (AV.ptr 2 0), none, none, none, none, none, none, none, none, none, none, none, none, none, none, none, none, none, none, none, none, none, none, none, none, none, none, none, none, none, none, none, none, none, none, none, none, none, none, none, none, none, none, none], [some (AObj.cells [AV.int .i64 am, AV.int .i64 ae, AV.int .i64 bm, AV.int .i64 be] 65), some (AObj.cells ((AV.bool false) :: (ints .u8 (List.replicate 88 0))) 50), some (AObj.cells ((AV.bool (unlikeB am bm)) :: (ints .u8 (digs 88 (quoV am ae bm be)))) 50)]⟩),
        0 ≤ 0,
        0 - 0 + 89 ≤ List.length ((AV.bool (unlikeB am bm)) :: (ints .u8 (digs 88 (quoV am ae bm be)))),
        List.take 89 (List.drop (0 - 0) ((AV.bool (unlikeB am bm)) :: (ints .u8 (digs 88 (quoV am ae bm be))))) = (AV.bool (unlikeB am bm)) :: (ints .u8 (digs 88 (quoV am ae bm be))),
        ((AV.bool (unlikeB am bm)) :: (ints .u8 (digs 88 (quoV am ae bm be))) : List AV).length = 89,
        0 + 89 ≤ List.length ((AV.bool false) :: (ints .u8 (List.replicate 88 0))),
        AObj.cells (List.take 0 ((AV.bool false) :: (ints .u8 (List.replicate 88 0))) ++ ((AV.bool (unlikeB am bm)) :: (ints .u8 (digs 88 (quoV am ae bm be)))) ++ List.drop (0 + 89) ((AV.bool false) :: (ints .u8 (List.replicate 88 0)))) 50 = AObj.cells ((AV.bool (unlikeB am bm)) :: (ints .u8 (digs 88 (quoV am ae bm be)))) 50],
      .ret, ⟨[none, none, some (AV.ptr 1 0), none, none, none, some (AV.ptr 2 0), none, none, none, none, none, none, none, none, none, none, none, none, none, none, none, none, none, none, none, none, none, none, none, none, none, none, none, none, none, none, none, none, none, none, none, none, none, none, none, none, none, none, some (AV.agg ((AV.bool (unlikeB am bm)) :: (ints .u8 (digs 88 (quoV am ae bm be)))))], [some (AObj.cells [AV.int .i64 am, AV.int .i64 ae, AV.int .i64 bm, AV.int .i64 be] 65), some (AObj.cells ((AV.bool (unlikeB am bm)) :: (ints .u8 (digs 88 (quoV am ae bm be)))) 50), some (AObj.cells ((AV.bool (unlikeB am bm)) :: (ints .u8 (digs 88 (quoV am ae bm be)))) 50)]⟩, []⟩)
    (ob := [0 ≤ 0,
        0 - 0 + 89 ≤ List.length ((AV.bool (unlikeB am bm)) :: (ints .u8 (digs 88 (quoV am ae bm be)))),
        List.take 89 (List.drop (0 - 0) ((AV.bool (unlikeB am bm)) :: (ints .u8 (digs 88 (quoV am ae bm be))))) = (AV.bool (unlikeB am bm)) :: (ints .u8 (digs 88 (quoV am ae bm be))),
        AV.agg ((AV.bool (unlikeB am bm)) :: (ints .u8 (digs 88 (quoV am ae bm be)))) = AV.agg ((AV.bool (unlikeB am bm)) :: (ints .u8 (digs 88 (quoV am ae bm be)))),
        Avoid (fun n => decide (0 ≤ n)) (AV.agg ((AV.bool (unlikeB am bm)) :: (ints .u8 (digs 88 (quoV am ae bm be)))))])
    Try.func57 (by kernel_rfl) Try.call57 (by kernel_rfl)
    ⟨by kernel_rfl, Nat.zero_le _, rfl, rfl, size_meets am (by omega), Nat.zero_le _, rfl, rfl, size_meets bm (by omega), Nat.zero_le _, rfl, Nat.zero_le _, rfl, wI (by omega), by omega, quoI ⟨by omega, by omega, by omega, rfl⟩, rfl, Nat.le_of_ble_eq_true (by kernel_rfl), rfl, Nat.le_of_ble_eq_true (by kernel_rfl), by kernel_rfl, rfl, lay_meets (((am.natAbs : Nat) : Int) / ((bm.natAbs : Nat) : Int)) (ae - be) _ (by omega) (by omega) (digs_aV _ _), by simp only [renL, AV.ren, renL_ints, renL_u8s, renL_append], by kernel_rfl, (by simp only [List.length_cons, List.length_nil, List.length_append, ints_length, u8s_length, List.length_replicate, List.length_set, List.length_map, digs_length] <;> omega), (by simp only [List.length_cons, List.length_nil, List.length_append, ints_length, u8s_length, List.length_replicate, List.length_set, List.length_map, digs_length] <;> omega), store_whole (by simp only [List.length_cons, List.length_nil, List.length_append, ints_length, u8s_length, List.length_replicate, List.length_set, List.length_map, digs_length] <;> omega), Nat.zero_le _, Nat.le_of_ble_eq_true rfl, rfl, rfl, unlike_meets am ae bm be, rfl, (by simp only [List.length_cons, List.length_nil, List.length_append, ints_length, u8s_length, List.length_replicate, List.length_set, List.length_map, digs_length] <;> omega), rfl, wI (by omega), rfl, rfl, rfl, rfl, intE (by omega), rfl, rfl, by rw [e0], hl, Nat.zero_le _, (by simp only [List.length_cons, List.length_nil, List.length_append, ints_length, u8s_length, List.length_replicate, List.length_set, List.length_map, digs_length] <;> omega), whole_cells (by simp only [List.length_cons, List.length_nil, List.length_append, ints_length, u8s_length, List.length_replicate, List.length_set, List.length_map, digs_length] <;> omega), (by simp only [List.length_cons, List.length_nil, List.length_append, ints_length, u8s_length, List.length_replicate, List.length_set, List.length_map, digs_length] <;> omega), (by simp only [List.length_cons, List.length_nil, List.length_append, ints_length, u8s_length, List.length_replicate, List.length_set, List.length_map, digs_length] <;> omega), store_whole (by simp only [List.length_cons, List.length_nil, List.length_append, ints_length, u8s_length, List.length_replicate, List.length_set, List.length_map, digs_length] <;> omega), trivial⟩
    (.inl rfl) (by kernel_rfl) ⟨Nat.zero_le _, (by simp only [List.length_cons, List.length_nil, List.length_append, ints_length, u8s_length, List.length_replicate, List.length_set, List.length_map, digs_length] <;> omega), whole_cells (by simp only [List.length_cons, List.length_nil, List.length_append, ints_length, u8s_length, List.length_replicate, List.length_set, List.length_map, digs_length] <;> omega), rfl, Avoid.agg (AvoidL.cons (Avoid.bool _ _) (AvoidL.ints _ _ _)), trivial⟩

/-- What is told of figures, if both decimals are right. -/
def tellR (ok : Bool) (mx : Bool) (ds : List Int) : Int × Int × Int := if ok = true then ((nearM mx ds).1, (nearM mx ds).2, nearE ds) else (0, 0, 10)
theorem right_bounds {m e : Int} (h : rightB m e = true) : (-1000000000000000 < m ∧ m < 1000000000000000) ∧ -9 ≤ e ∧ e ≤ 9 := by
  simp only [rightB, decide_eq_true_eq] at h; omega
def R3 (p : Int × Int × Int) : AV := AV.tuple [AV.agg [AV.int .i64 p.1, AV.int .i64 p.2.1], AV.int .i64 p.2.2]

theorem tell_meets (am ae bm be : Int) (fd : Nat) (mx : Bool) (ds : List Int) (hl : ds.length = 88) (hd : Dig ds) (hdeed : rightB am ae = true → rightB bm be = true → Meets Try.prog fd [AV.agg [AV.int .i64 am, AV.int .i64 ae, AV.int .i64 bm, AV.int .i64 be]] [] (AV.agg (AV.bool mx :: ints .u8 ds)) []) : Meets Try.prog 53 [AV.agg [AV.int .i64 am, AV.int .i64 ae, AV.int .i64 bm, AV.int .i64 be], AV.func fd [AV.agg [AV.int .i64 am, AV.int .i64 ae, AV.int .i64 bm, AV.int .i64 be]] []] [] (AV.tuple [AV.agg [AV.int .i64 ((tellR (rightB am ae && rightB bm be) mx ds).1), AV.int .i64 ((tellR (rightB am ae && rightB bm be) mx ds).2.1)], AV.int .i64 ((tellR (rightB am ae && rightB bm be) mx ds).2.2)]) [] := by
  by_cases c1 : rightB am ae = true
  · by_cases c2 : rightB bm be = true
    · exact meets_of_exec (fn := Try.f53) 2 [.reg [(0, {nm := [0]}), (1, {nm := [1]})], .reg [(1, {val := some (AV.agg [AV.int .i64 am, AV.int .i64 ae])}), (2, {call := some ⟨[], [AV.agg [AV.int .i64 am, AV.int .i64 ae]], [], AV.bool (rightB am ae), []⟩, val := some (AV.bool true)}), (3, {val := some (AV.bool false)}), (6, {val := some (AV.agg [AV.int .i64 bm, AV.int .i64 be])}), (7, {call := some ⟨[], [AV.agg [AV.int .i64 bm, AV.int .i64 be]], [], AV.bool (rightB bm be), []⟩, val := some (AV.bool true)}), (8, {val := some (AV.bool false)})], .reg [(1, {call := some ⟨[], [AV.agg [AV.int .i64 am, AV.int .i64 ae, AV.int .i64 bm, AV.int .i64 be]], [], AV.agg ((AV.bool mx) :: (ints .u8 ds)), []⟩, val := some (AV.agg ((AV.bool mx) :: (ints .u8 ds)))}), (2, {call := some ⟨[], [AV.agg ((AV.bool mx) :: (ints .u8 ds))], [], AV.tuple [AV.agg [AV.int .i64 ((nearM mx ds).1), AV.int .i64 ((nearM mx ds).2)], AV.int .i64 (nearE ds)], []⟩}), (5, {obj := some [AObj.cells [AV.int .i64 ((nearM mx ds).1), AV.int .i64 ((nearM mx ds).2)] 23]})]] [{val := some (AV.agg [AV.int .i64 ((nearM mx ds).1), AV.int .i64 ((nearM mx ds).2)])}, {}]
        (r := ⟨[0 ≤ 0,
            0 - 0 + 2 ≤ List.length [AV.int .i64 am, AV.int .i64 ae, AV.int .i64 bm, AV.int .i64 be],
            List.take 2 (List.drop (0 - 0) [AV.int .i64 am, AV.int .i64 ae, AV.int .i64 bm, AV.int .i64 be]) = [AV.int .i64 am, AV.int .i64 ae],
            [AV.agg [AV.int .i64 am, AV.int .i64 ae]] = renL [] [AV.agg [AV.int .i64 am, AV.int .i64 ae]],
            Meets Try.prog 30 [AV.agg [AV.int .i64 am, AV.int .i64 ae]] [] (AV.bool (rightB am ae)) [],
            AV.ren [] (AV.bool (rightB am ae)) = AV.bool true,
            AV.bool (!true) = AV.bool false,
            0 ≤ 2,
            2 - 0 + 2 ≤ List.length [AV.int .i64 am, AV.int .i64 ae, AV.int .i64 bm, AV.int .i64 be],
            List.take 2 (List.drop (2 - 0) [AV.int .i64 am, AV.int .i64 ae, AV.int .i64 bm, AV.int .i64 be]) = [AV.int .i64 bm, AV.int .i64 be],
            [AV.agg [AV.int .i64 bm, AV.int .i64 be]] = renL [] [AV.agg [AV.int .i64 bm, AV.int .i64 be]],
            Meets Try.prog 30 [AV.agg [AV.int .i64 bm, AV.int .i64 be]] [] (AV.bool (rightB bm be)) [],
            AV.ren [] (AV.bool (rightB bm be)) = AV.bool true,
            AV.bool (!true) = AV.bool false,
            [AV.agg [AV.int .i64 am, AV.int .i64 ae, AV.int .i64 bm, AV.int .i64 be]] = renL [] [AV.agg [AV.int .i64 am, AV.int .i64 ae, AV.int .i64 bm, AV.int .i64 be]],
            Meets Try.prog fd [AV.agg [AV.int .i64 am, AV.int .i64 ae, AV.int .i64 bm, AV.int .i64 be]] [] (AV.agg ((AV.bool mx) :: (ints .u8 ds))) [],
            AV.ren [] (AV.agg ((AV.bool mx) :: (ints .u8 ds))) = AV.agg ((AV.bool mx) :: (ints .u8 ds)),
            [AV.agg ((AV.bool mx) :: (ints .u8 ds))] = renL [] [AV.agg ((AV.bool mx) :: (ints .u8 ds))],
            Meets Try.prog 32 [AV.agg ((AV.bool mx) :: (ints .u8 ds))] [] (AV.tuple [AV.agg [AV.int .i64 ((nearM mx ds).1), AV.int .i64 ((nearM mx ds).2)], AV.int .i64 (nearE ds)]) [],
            ([AV.int .i64 ((nearM mx ds).1), AV.int .i64 ((nearM mx ds).2)] : List AV).length = 2,
            0 + 2 ≤ List.length [AV.int .i64 0, AV.int .i64 0],
            AObj.cells (List.take 0 [AV.int .i64 0, AV.int .i64 0] ++ [AV.int .i64 ((nearM mx ds).1), AV.int .i64 ((nearM mx ds).2)] ++ List.drop (0 + 2) [AV.int .i64 0, AV.int .i64 0]) 23 = AObj.cells [AV.int .i64 ((nearM mx ds).1), AV.int .i64 ((nearM mx ds).2)] 23],
          .ret, ⟨[some (AV.agg [AV.int .i64 am, AV.int .i64 ae, AV.int .i64 bm, AV.int .i64 be]), some (AV.func fd [AV.agg [AV.int .i64 am, AV.int .i64 ae, AV.int .i64 bm, AV.int .i64 be]] []), some (AV.ptr 0 0), none, some (AV.ptr 1 0), some (AV.int .i64 (nearE ds)), some (AV.ptr 0 0), some (AV.agg [AV.int .i64 am, AV.int .i64 ae]), some (AV.bool true), some (AV.bool false), some (AV.bool false), some (AV.ptr 0 2), some (AV.agg [AV.int .i64 bm, AV.int .i64 be]), some (AV.bool true), some (AV.bool false), some (AV.bool false), none, some (AV.func fd [AV.agg [AV.int .i64 am, AV.int .i64 ae, AV.int .i64 bm, AV.int .i64 be]] []), some (AV.agg ((AV.bool mx) :: (ints .u8 ds))), some (AV.tuple [AV.agg [AV.int .i64 ((nearM mx ds).1), AV.int .i64 ((nearM mx ds).2)], AV.int .i64 (nearE ds)]), some (AV.agg [AV.int .i64 ((nearM mx ds).1), AV.int .i64 ((nearM mx ds).2)]), some (AV.int .i64 (nearE ds))], [some (AObj.cells [AV.int .i64 am, AV.int .i64 ae, AV.int .i64 bm, AV.int .i64 be] 65), some (AObj.cells [AV.int .i64 ((nearM mx ds).1), AV.int .i64 ((nearM mx ds).2)] 23)]⟩, []⟩)
        (ob := [0 ≤ 0,
            0 - 0 + 2 ≤ List.length [AV.int .i64 ((nearM mx ds).1), AV.int .i64 ((nearM mx ds).2)],
            List.take 2 (List.drop (0 - 0) [AV.int .i64 ((nearM mx ds).1), AV.int .i64 ((nearM mx ds).2)]) = [AV.int .i64 ((nearM mx ds).1), AV.int .i64 ((nearM mx ds).2)],
            AV.tuple [AV.agg [AV.int .i64 ((nearM mx ds).1), AV.int .i64 ((nearM mx ds).2)], AV.int .i64 (nearE ds)] = AV.tuple [AV.agg [AV.int .i64 ((tellR (rightB am ae && rightB bm be) mx ds).1), AV.int .i64 ((tellR (rightB am ae && rightB bm be) mx ds).2.1)], AV.int .i64 ((tellR (rightB am ae && rightB bm be) mx ds).2.2)],
            Avoid (fun n => decide (0 ≤ n)) (AV.tuple [AV.agg [AV.int .i64 ((tellR (rightB am ae && rightB bm be) mx ds).1), AV.int .i64 ((tellR (rightB am ae && rightB bm be) mx ds).2.1)], AV.int .i64 ((tellR (rightB am ae && rightB bm be) mx ds).2.2)])])
        Try.func53 (by kernel_rfl) Try.call53 (by kernel_rfl)
        ⟨Nat.zero_le _, Nat.le_of_ble_eq_true rfl, rfl, rfl, right_meets am ae, boolT c1, rfl, Nat.zero_le _, Nat.le_of_ble_eq_true rfl, rfl, rfl, right_meets bm be, boolT c2, rfl, rfl, (hdeed c1 c2), by simp only [renL, AV.ren, renL_ints, renL_u8s, renL_append], by simp only [renL, AV.ren, renL_ints, renL_u8s, renL_append], nearest_meets mx ds hl hd, rfl, Nat.le_of_ble_eq_true rfl, rfl, trivial⟩
        (.inl rfl) (by kernel_rfl) ⟨Nat.zero_le _, Nat.le_of_ble_eq_true rfl, rfl, by simp [tellR, *], Avoid.tuple (AvoidL.cons (Avoid.agg (AvoidL.cons (Avoid.int _ _ _) (AvoidL.cons (Avoid.int _ _ _) (AvoidL.nil _)))) (AvoidL.cons (Avoid.int _ _ _) (AvoidL.nil _))), trivial⟩
    · exact meets_of_exec (fn := Try.f53) 2 [.reg [(0, {nm := [0]}), (1, {nm := [1]})], .reg [(1, {val := some (AV.agg [AV.int .i64 am, AV.int .i64 ae])}), (2, {call := some ⟨[], [AV.agg [AV.int .i64 am, AV.int .i64 ae]], [], AV.bool (rightB am ae), []⟩, val := some (AV.bool true)}), (3, {val := some (AV.bool false)}), (6, {val := some (AV.agg [AV.int .i64 bm, AV.int .i64 be])}), (7, {call := some ⟨[], [AV.agg [AV.int .i64 bm, AV.int .i64 be]], [], AV.bool (rightB bm be), []⟩, val := some (AV.bool false)}), (8, {val := some (AV.bool true)})], .reg [(1, {obj := some [AObj.cells [AV.int .i64 0, AV.int .i64 0] 23]})]] [{val := some (AV.agg [AV.int .i64 0, AV.int .i64 0])}, {}]
        (r := ⟨[0 ≤ 0,
            0 - 0 + 2 ≤ List.length [AV.int .i64 am, AV.int .i64 ae, AV.int .i64 bm, AV.int .i64 be],
            List.take 2 (List.drop (0 - 0) [AV.int .i64 am, AV.int .i64 ae, AV.int .i64 bm, AV.int .i64 be]) = [AV.int .i64 am, AV.int .i64 ae],
            [AV.agg [AV.int .i64 am, AV.int .i64 ae]] = renL [] [AV.agg [AV.int .i64 am, AV.int .i64 ae]],
            Meets Try.prog 30 [AV.agg [AV.int .i64 am, AV.int .i64 ae]] [] (AV.bool (rightB am ae)) [],
            AV.ren [] (AV.bool (rightB am ae)) = AV.bool true,
            AV.bool (!true) = AV.bool false,
            0 ≤ 2,
            2 - 0 + 2 ≤ List.length [AV.int .i64 am, AV.int .i64 ae, AV.int .i64 bm, AV.int .i64 be],
            List.take 2 (List.drop (2 - 0) [AV.int .i64 am, AV.int .i64 ae, AV.int .i64 bm, AV.int .i64 be]) = [AV.int .i64 bm, AV.int .i64 be],
            [AV.agg [AV.int .i64 bm, AV.int .i64 be]] = renL [] [AV.agg [AV.int .i64 bm, AV.int .i64 be]],
            Meets Try.prog 30 [AV.agg [AV.int .i64 bm, AV.int .i64 be]] [] (AV.bool (rightB bm be)) [],
            AV.ren [] (AV.bool (rightB bm be)) = AV.bool false,
            AV.bool (!false) = AV.bool true,
            ([AV.int .i64 0, AV.int .i64 0] : List AV).length = 2,
            0 + 2 ≤ List.length [AV.int .i64 0, AV.int .i64 0],
            AObj.cells (List.take 0 [AV.int .i64 0, AV.int .i64 0] ++ [AV.int .i64 0, AV.int .i64 0] ++ List.drop (0 + 2) [AV.int .i64 0, AV.int .i64 0]) 23 = AObj.cells [AV.int .i64 0, AV.int .i64 0] 23],
          .ret, ⟨[some (AV.agg [AV.int .i64 am, AV.int .i64 ae, AV.int .i64 bm, AV.int .i64 be]), some (AV.func fd [AV.agg [AV.int .i64 am, AV.int .i64 ae, AV.int .i64 bm, AV.int .i64 be]] []), some (AV.ptr 0 0), none, some (AV.ptr 1 0), some (AV.int .i64 10), some (AV.ptr 0 0), some (AV.agg [AV.int .i64 am, AV.int .i64 ae]), some (AV.bool true), some (AV.bool false), some (AV.bool false), some (AV.ptr 0 2), some (AV.agg [AV.int .i64 bm, AV.int .i64 be]), some (AV.bool false), some (AV.bool true), some (AV.bool true), some (AV.agg [AV.int .i64 0, AV.int .i64 0]), none, none, none, none, none], [some (AObj.cells [AV.int .i64 am, AV.int .i64 ae, AV.int .i64 bm, AV.int .i64 be] 65), some (AObj.cells [AV.int .i64 0, AV.int .i64 0] 23)]⟩, []⟩)
        (ob := [0 ≤ 0,
            0 - 0 + 2 ≤ List.length [AV.int .i64 0, AV.int .i64 0],
            List.take 2 (List.drop (0 - 0) [AV.int .i64 0, AV.int .i64 0]) = [AV.int .i64 0, AV.int .i64 0],
            AV.tuple [AV.agg [AV.int .i64 0, AV.int .i64 0], AV.int .i64 10] = AV.tuple [AV.agg [AV.int .i64 ((tellR (rightB am ae && rightB bm be) mx ds).1), AV.int .i64 ((tellR (rightB am ae && rightB bm be) mx ds).2.1)], AV.int .i64 ((tellR (rightB am ae && rightB bm be) mx ds).2.2)],
            Avoid (fun n => decide (0 ≤ n)) (AV.tuple [AV.agg [AV.int .i64 ((tellR (rightB am ae && rightB bm be) mx ds).1), AV.int .i64 ((tellR (rightB am ae && rightB bm be) mx ds).2.1)], AV.int .i64 ((tellR (rightB am ae && rightB bm be) mx ds).2.2)])])
        Try.func53 (by kernel_rfl) Try.call53 (by kernel_rfl)
        ⟨Nat.zero_le _, Nat.le_of_ble_eq_true rfl, rfl, rfl, right_meets am ae, boolT c1, rfl, Nat.zero_le _, Nat.le_of_ble_eq_true rfl, rfl, rfl, right_meets bm be, boolF c2, rfl, rfl, Nat.le_of_ble_eq_true rfl, rfl, trivial⟩
        (.inl rfl) (by kernel_rfl) ⟨Nat.zero_le _, Nat.le_of_ble_eq_true rfl, rfl, by simp [tellR, *], Avoid.tuple (AvoidL.cons (Avoid.agg (AvoidL.cons (Avoid.int _ _ _) (AvoidL.cons (Avoid.int _ _ _) (AvoidL.nil _)))) (AvoidL.cons (Avoid.int _ _ _) (AvoidL.nil _))), trivial⟩
  · exact meets_of_exec (fn := Try.f53) 2 [.reg [(0, {nm := [0]}), (1, {nm := [1]})], .reg [(1, {val := some (AV.agg [AV.int .i64 am, AV.int .i64 ae])}), (2, {call := some ⟨[], [AV.agg [AV.int .i64 am, AV.int .i64 ae]], [], AV.bool (rightB am ae), []⟩, val := some (AV.bool false)}), (3, {val := some (AV.bool true)})], .reg [(1, {obj := some [AObj.cells [AV.int .i64 0, AV.int .i64 0] 23]})]] [{val := some (AV.agg [AV.int .i64 0, AV.int .i64 0])}, {}]
      (r := ⟨[0 ≤ 0,
          0 - 0 + 2 ≤ List.length [AV.int .i64 am, AV.int .i64 ae, AV.int .i64 bm, AV.int .i64 be],
          List.take 2 (List.drop (0 - 0) [AV.int .i64 am, AV.int .i64 ae, AV.int .i64 bm, AV.int .i64 be]) = [AV.int .i64 am, AV.int .i64 ae],
          [AV.agg [AV.int .i64 am, AV.int .i64 ae]] = renL [] [AV.agg [AV.int .i64 am, AV.int .i64 ae]],
          Meets Try.prog 30 [AV.agg [AV.int .i64 am, AV.int .i64 ae]] [] (AV.bool (rightB am ae)) [],
          AV.ren [] (AV.bool (rightB am ae)) = AV.bool false,
          AV.bool (!false) = AV.bool true,
          ([AV.int .i64 0, AV.int .i64 0] : List AV).length = 2,
          0 + 2 ≤ List.length [AV.int .i64 0, AV.int .i64 0],
          AObj.cells (List.take 0 [AV.int .i64 0, AV.int .i64 0] ++ [AV.int .i64 0, AV.int .i64 0] ++ List.drop (0 + 2) [AV.int .i64 0, AV.int .i64 0]) 23 = AObj.cells [AV.int .i64 0, AV.int .i64 0] 23],
        .ret, ⟨[some (AV.agg [AV.int .i64 am, AV.int .i64 ae, AV.int .i64 bm, AV.int .i64 be]), some (AV.func fd [AV.agg [AV.int .i64 am, AV.int .i64 ae, AV.int .i64 bm, AV.int .i64 be]] []), some (AV.ptr 0 0), none, some (AV.ptr 1 0), some (AV.int .i64 10), some (AV.ptr 0 0), some (AV.agg [AV.int .i64 am, AV.int .i64 ae]), some (AV.bool false), some (AV.bool true), some (AV.bool true), some (AV.tuple []), some (AV.tuple []), some (AV.tuple []), some (AV.tuple []), some (AV.bool true), some (AV.agg [AV.int .i64 0, AV.int .i64 0]), none, none, none, none, none], [some (AObj.cells [AV.int .i64 am, AV.int .i64 ae, AV.int .i64 bm, AV.int .i64 be] 65), some (AObj.cells [AV.int .i64 0, AV.int .i64 0] 23)]⟩, []⟩)
      (ob := [0 ≤ 0,
          0 - 0 + 2 ≤ List.length [AV.int .i64 0, AV.int .i64 0],
          List.take 2 (List.drop (0 - 0) [AV.int .i64 0, AV.int .i64 0]) = [AV.int .i64 0, AV.int .i64 0],
          AV.tuple [AV.agg [AV.int .i64 0, AV.int .i64 0], AV.int .i64 10] = AV.tuple [AV.agg [AV.int .i64 ((tellR (rightB am ae && rightB bm be) mx ds).1), AV.int .i64 ((tellR (rightB am ae && rightB bm be) mx ds).2.1)], AV.int .i64 ((tellR (rightB am ae && rightB bm be) mx ds).2.2)],
          Avoid (fun n => decide (0 ≤ n)) (AV.tuple [AV.agg [AV.int .i64 ((tellR (rightB am ae && rightB bm be) mx ds).1), AV.int .i64 ((tellR (rightB am ae && rightB bm be) mx ds).2.1)], AV.int .i64 ((tellR (rightB am ae && rightB bm be) mx ds).2.2)])])
      Try.func53 (by kernel_rfl) Try.call53 (by kernel_rfl)
      ⟨Nat.zero_le _, Nat.le_of_ble_eq_true rfl, rfl, rfl, right_meets am ae, boolF c1, rfl, rfl, Nat.le_of_ble_eq_true rfl, rfl, trivial⟩
      (.inl rfl) (by kernel_rfl) ⟨Nat.zero_le _, Nat.le_of_ble_eq_true rfl, rfl, by simp [tellR, *], Avoid.tuple (AvoidL.cons (Avoid.agg (AvoidL.cons (Avoid.int _ _ _) (AvoidL.cons (Avoid.int _ _ _) (AvoidL.nil _)))) (AvoidL.cons (Avoid.int _ _ _) (AvoidL.nil _))), trivial⟩

end Go.Proofs.Ytabgphldbgdbpaa
