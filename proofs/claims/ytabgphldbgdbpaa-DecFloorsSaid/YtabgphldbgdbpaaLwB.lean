import Derived.Test.YtabgphldbgdbpaaDecAA
set_option linter.unusedVariables false
set_option linter.unusedSimpArgs false
set_option maxRecDepth 20000
namespace Go.Proofs.Ytabgphldbgdbpaa
open Go Sx Dc

theorem floor_bound (m e : Int) : -1000000000000000 ≤ (floorR m e).1 ∧ (floorR m e).1 ≤ 1000000000000000 := by
  by_cases h : (floorR m e).2 = 0
  · have := floor_range h; omega
  · unfold floorR at *
    split
    · rename_i hc; rw [if_pos hc] at h; exact absurd rfl h
    · simp

theorem decFloors_meets (am ae : Int) (ham : -9223372036854775808 ≤ am ∧ am < 9223372036854775808) (hae : -9223372036854775808 ≤ ae ∧ ae < 9223372036854775808) : Meets Try.prog 10 [AV.agg [AV.int .i64 am, AV.int .i64 ae]] [] (AV.bool true) [] := by
  obtain ⟨xm, xe, hx, kx⟩ : ∃ m e : Int, rightB m e = true ∧ Meets Try.prog 18 [AV.agg [AV.int .i64 am, AV.int .i64 ae]] [] (AV.agg [AV.int .i64 m, AV.int .i64 e]) [] := ⟨_, _, decOfR_right am ae, decOf_meets am ae (by omega) (by omega)⟩
  obtain ⟨n, c, e0⟩ : ∃ n c : Int, floorR xm xe = (n, c) := ⟨_, _, rfl⟩
  have hn := floor_bound xm xe
  rw [e0] at hn
  simp only at hn
  have hl : c = 0 → _ := fun h => floor_law (m := xm) (e := xe) (by rw [e0]; exact h)
  rw [e0] at hl
  simp only at hl
  obtain ⟨wm, we, wc, ew⟩ : ∃ m e c : Int, ofR n = (m, e, c) := ⟨_, _, _, rfl⟩
  have kw := lit3 (of_meets n (by omega)) ew
  obtain ⟨um, ue, uc, eu⟩ : ∃ m e c : Int, ofR (n + 1) = (m, e, c) := ⟨_, _, _, rfl⟩
  have ku := lit3 (of_meets (n + 1) (by omega)) eu
  rw [ew, eu] at hl
  simp only at hl
  by_cases c1 : c = 0
  · by_cases c4 : uc = 0
    · exact meets_of_exec (fn := Try.f10) 4 [.reg [(0, {nm := [0]})], .reg [(0, {call := some ⟨[], [], [], AV.bool true, []⟩})], .reg [(1, {val := some (AV.bool false)})], .reg [(0, {val := some (AV.agg [AV.int .i64 am, AV.int .i64 ae])}), (1, {call := some ⟨[], [AV.agg [AV.int .i64 am, AV.int .i64 ae]], [], AV.agg [AV.int .i64 xm, AV.int .i64 xe], []⟩}), (2, {nm := [1]}), (3, {obj := some [AObj.cells [AV.int .i64 xm, AV.int .i64 xe] 23]})], .reg [(0, {val := some (AV.agg [AV.int .i64 xm, AV.int .i64 xe])}), (1, {call := some ⟨[], [AV.agg [AV.int .i64 xm, AV.int .i64 xe]], [], AV.tuple [AV.int .i64 n, AV.int .i64 0], []⟩})], .reg [(1, {val := some (AV.bool false)})], .reg [(1, {call := some ⟨[], [AV.int .i64 n], [], AV.tuple [AV.agg [AV.int .i64 wm, AV.int .i64 we], AV.int .i64 wc], []⟩}), (5, {nm := [2]}), (6, {obj := some [AObj.cells [AV.int .i64 wm, AV.int .i64 we] 23]})], .reg [(1, {val := some (AV.int .i64 (n + 1))}), (2, {call := some ⟨[], [AV.int .i64 (n + 1)], [], AV.tuple [AV.agg [AV.int .i64 um, AV.int .i64 ue], AV.int .i64 uc], []⟩}), (6, {nm := [3]}), (7, {obj := some [AObj.cells [AV.int .i64 um, AV.int .i64 ue] 23]})], .reg [(3, {val := some (AV.bool true)}), (6, {val := some (AV.agg [AV.int .i64 wm, AV.int .i64 we])}), (7, {val := some (AV.agg [AV.int .i64 xm, AV.int .i64 xe])}), (8, {call := some ⟨[], [AV.agg [AV.int .i64 wm, AV.int .i64 we], AV.agg [AV.int .i64 xm, AV.int .i64 xe]], [], AV.int .i64 (cmpR wm we xm xe), []⟩}), (9, {val := some (AV.bool true)}), (13, {val := some (AV.bool false)}), (15, {val := some (AV.agg [AV.int .i64 xm, AV.int .i64 xe])}), (16, {val := some (AV.agg [AV.int .i64 um, AV.int .i64 ue])}), (17, {call := some ⟨[], [AV.agg [AV.int .i64 xm, AV.int .i64 xe], AV.agg [AV.int .i64 um, AV.int .i64 ue]], [], AV.int .i64 (cmpR xm xe um ue), []⟩}), (18, {val := some (AV.bool true)})]] [{}]
        (r := ⟨[[] = renL [] [],
            Meets Try.prog 12 [] [] (AV.bool true) [],
            AV.bool (!true) = AV.bool false,
            0 ≤ 0,
            0 - 0 + 2 ≤ List.length [AV.int .i64 am, AV.int .i64 ae],
            List.take 2 (List.drop (0 - 0) [AV.int .i64 am, AV.int .i64 ae]) = [AV.int .i64 am, AV.int .i64 ae],
            [AV.agg [AV.int .i64 am, AV.int .i64 ae]] = renL [] [AV.agg [AV.int .i64 am, AV.int .i64 ae]],
            Meets Try.prog 18 [AV.agg [AV.int .i64 am, AV.int .i64 ae]] [] (AV.agg [AV.int .i64 xm, AV.int .i64 xe]) [],
            ([AV.int .i64 xm, AV.int .i64 xe] : List AV).length = 2,
            0 + 2 ≤ List.length [AV.int .i64 0, AV.int .i64 0],
            AObj.cells (List.take 0 [AV.int .i64 0, AV.int .i64 0] ++ [AV.int .i64 xm, AV.int .i64 xe] ++ List.drop (0 + 2) [AV.int .i64 0, AV.int .i64 0]) 23 = AObj.cells [AV.int .i64 xm, AV.int .i64 xe] 23,
            0 ≤ 0,
            0 - 0 + 2 ≤ List.length [AV.int .i64 xm, AV.int .i64 xe],
            List.take 2 (List.drop (0 - 0) [AV.int .i64 xm, AV.int .i64 xe]) = [AV.int .i64 xm, AV.int .i64 xe],
            [AV.agg [AV.int .i64 xm, AV.int .i64 xe]] = renL [] [AV.agg [AV.int .i64 xm, AV.int .i64 xe]],
            Meets Try.prog 26 [AV.agg [AV.int .i64 xm, AV.int .i64 xe]] [] (AV.tuple [AV.int .i64 n, AV.int .i64 0]) [],
            AV.bool ((0 : Int) != 0) = AV.bool false,
            [AV.int .i64 n] = renL [] [AV.int .i64 n],
            Meets Try.prog 15 [AV.int .i64 n] [] (AV.tuple [AV.agg [AV.int .i64 wm, AV.int .i64 we], AV.int .i64 wc]) [],
            ([AV.int .i64 wm, AV.int .i64 we] : List AV).length = 2,
            0 + 2 ≤ List.length [AV.int .i64 0, AV.int .i64 0],
            AObj.cells (List.take 0 [AV.int .i64 0, AV.int .i64 0] ++ [AV.int .i64 wm, AV.int .i64 we] ++ List.drop (0 + 2) [AV.int .i64 0, AV.int .i64 0]) 23 = AObj.cells [AV.int .i64 wm, AV.int .i64 we] 23,
            AV.int .i64 (IntKind.i64.wrap (n + 1)) = AV.int .i64 (n + 1),
            [AV.int .i64 (n + 1)] = renL [] [AV.int .i64 (n + 1)],
            Meets Try.prog 15 [AV.int .i64 (n + 1)] [] (AV.tuple [AV.agg [AV.int .i64 um, AV.int .i64 ue], AV.int .i64 uc]) [],
            ([AV.int .i64 um, AV.int .i64 ue] : List AV).length = 2,
            0 + 2 ≤ List.length [AV.int .i64 0, AV.int .i64 0],
            AObj.cells (List.take 0 [AV.int .i64 0, AV.int .i64 0] ++ [AV.int .i64 um, AV.int .i64 ue] ++ List.drop (0 + 2) [AV.int .i64 0, AV.int .i64 0]) 23 = AObj.cells [AV.int .i64 um, AV.int .i64 ue] 23,
            AV.bool (wc == 0) = AV.bool true,
            0 ≤ 0,
            0 - 0 + 2 ≤ List.length [AV.int .i64 wm, AV.int .i64 we],
            List.take 2 (List.drop (0 - 0) [AV.int .i64 wm, AV.int .i64 we]) = [AV.int .i64 wm, AV.int .i64 we],
            0 ≤ 0,
            0 - 0 + 2 ≤ List.length [AV.int .i64 xm, AV.int .i64 xe],
            List.take 2 (List.drop (0 - 0) [AV.int .i64 xm, AV.int .i64 xe]) = [AV.int .i64 xm, AV.int .i64 xe],
            [AV.agg [AV.int .i64 wm, AV.int .i64 we], AV.agg [AV.int .i64 xm, AV.int .i64 xe]] = renL [] [AV.agg [AV.int .i64 wm, AV.int .i64 we], AV.agg [AV.int .i64 xm, AV.int .i64 xe]],
            Meets Try.prog 27 [AV.agg [AV.int .i64 wm, AV.int .i64 we], AV.agg [AV.int .i64 xm, AV.int .i64 xe]] [] (AV.int .i64 (cmpR wm we xm xe)) [],
            AV.bool (decide ((cmpR wm we xm xe) ≤ 0)) = AV.bool true,
            AV.bool (uc != 0) = AV.bool false,
            0 ≤ 0,
            0 - 0 + 2 ≤ List.length [AV.int .i64 xm, AV.int .i64 xe],
            List.take 2 (List.drop (0 - 0) [AV.int .i64 xm, AV.int .i64 xe]) = [AV.int .i64 xm, AV.int .i64 xe],
            0 ≤ 0,
            0 - 0 + 2 ≤ List.length [AV.int .i64 um, AV.int .i64 ue],
            List.take 2 (List.drop (0 - 0) [AV.int .i64 um, AV.int .i64 ue]) = [AV.int .i64 um, AV.int .i64 ue],
            [AV.agg [AV.int .i64 xm, AV.int .i64 xe], AV.agg [AV.int .i64 um, AV.int .i64 ue]] = renL [] [AV.agg [AV.int .i64 xm, AV.int .i64 xe], AV.agg [AV.int .i64 um, AV.int .i64 ue]],
            Meets Try.prog 27 [AV.agg [AV.int .i64 xm, AV.int .i64 xe], AV.agg [AV.int .i64 um, AV.int .i64 ue]] [] (AV.int .i64 (cmpR xm xe um ue)) [],
            AV.bool (decide ((cmpR xm xe um ue) < 0)) = AV.bool true],
          .ret, ⟨[some (AV.agg [AV.int .i64 am, AV.int .i64 ae]), some (AV.ptr 0 0), some (AV.bool true), some (AV.bool true), some (AV.ptr 1 0), some (AV.int .i64 n), some (AV.int .i64 0), some (AV.ptr 2 0), some (AV.int .i64 wc), some (AV.ptr 3 0), some (AV.int .i64 uc), some (AV.bool true), some (AV.bool true), some (AV.bool false), some (AV.agg [AV.int .i64 am, AV.int .i64 ae]), some (AV.agg [AV.int .i64 xm, AV.int .i64 xe]), some (AV.tuple [AV.int .i64 n, AV.int .i64 0]), some (AV.agg [AV.int .i64 xm, AV.int .i64 xe]), some (AV.tuple [AV.int .i64 n, AV.int .i64 0]), some (AV.int .i64 n), some (AV.int .i64 0), some (AV.int .i64 0), some (AV.bool false), none, none, none, none, none, none, none, none, none, none, none, none, none, none, none, none, none, none, none, none, none, none, none, none, some (AV.tuple [AV.agg [AV.int .i64 wm, AV.int .i64 we], AV.int .i64 wc]), some (AV.int .i64 n), some (AV.tuple [AV.agg [AV.int .i64 wm, AV.int .i64 we], AV.int .i64 wc]), some (AV.agg [AV.int .i64 wm, AV.int .i64 we]), some (AV.int .i64 wc), some (AV.tuple [AV.agg [AV.int .i64 um, AV.int .i64 ue], AV.int .i64 uc]), some (AV.int .i64 n), some (AV.int .i64 (n + 1)), some (AV.tuple [AV.agg [AV.int .i64 um, AV.int .i64 ue], AV.int .i64 uc]), some (AV.agg [AV.int .i64 um, AV.int .i64 ue]), some (AV.int .i64 uc), some (AV.bool true), some (AV.bool true), some (AV.int .i64 wc), some (AV.bool true), some (AV.bool true), some (AV.bool true), some (AV.agg [AV.int .i64 wm, AV.int .i64 we]), some (AV.agg [AV.int .i64 xm, AV.int .i64 xe]), some (AV.int .i64 (cmpR wm we xm xe)), some (AV.bool true), some (AV.bool true), some (AV.bool true), some (AV.int .i64 uc), some (AV.bool false), some (AV.bool false), some (AV.agg [AV.int .i64 xm, AV.int .i64 xe]), some (AV.agg [AV.int .i64 um, AV.int .i64 ue]), some (AV.int .i64 (cmpR xm xe um ue)), some (AV.bool true), some (AV.bool true), some (AV.bool true)], [some (AObj.cells [AV.int .i64 am, AV.int .i64 ae] 23), some (AObj.cells [AV.int .i64 xm, AV.int .i64 xe] 23), some (AObj.cells [AV.int .i64 wm, AV.int .i64 we] 23), some (AObj.cells [AV.int .i64 um, AV.int .i64 ue] 23)]⟩, []⟩)
        (ob := [AV.bool true = AV.bool true])
        Try.func10 (by kernel_rfl) Try.call10 (by kernel_rfl)
        ⟨rfl, examples_meet, rfl, Nat.zero_le _, Nat.le_of_ble_eq_true rfl, rfl, rfl, kx, rfl, Nat.le_of_ble_eq_true rfl, rfl, Nat.zero_le _, Nat.le_of_ble_eq_true rfl, rfl, rfl, lit2 (floor_meets xm xe) (by rw [e0, c1]), boolE (by decide), rfl, kw, rfl, Nat.le_of_ble_eq_true rfl, rfl, wI (by omega), rfl, ku, rfl, Nat.le_of_ble_eq_true rfl, rfl, eqT ((hl c1).1), Nat.zero_le _, Nat.le_of_ble_eq_true rfl, rfl, Nat.zero_le _, Nat.le_of_ble_eq_true rfl, rfl, rfl, cmp_meets wm we xm xe, bT ((hl c1).2.1), neF c4, Nat.zero_le _, Nat.le_of_ble_eq_true rfl, rfl, Nat.zero_le _, Nat.le_of_ble_eq_true rfl, rfl, rfl, cmp_meets xm xe um ue, bT ((hl c1).2.2 ‹uc = 0›), trivial⟩
        (.inl rfl) (by kernel_rfl) ⟨rfl, trivial⟩
    · exact meets_of_exec (fn := Try.f10) 4 [.reg [(0, {nm := [0]})], .reg [(0, {call := some ⟨[], [], [], AV.bool true, []⟩})], .reg [(1, {val := some (AV.bool false)})], .reg [(0, {val := some (AV.agg [AV.int .i64 am, AV.int .i64 ae])}), (1, {call := some ⟨[], [AV.agg [AV.int .i64 am, AV.int .i64 ae]], [], AV.agg [AV.int .i64 xm, AV.int .i64 xe], []⟩}), (2, {nm := [1]}), (3, {obj := some [AObj.cells [AV.int .i64 xm, AV.int .i64 xe] 23]})], .reg [(0, {val := some (AV.agg [AV.int .i64 xm, AV.int .i64 xe])}), (1, {call := some ⟨[], [AV.agg [AV.int .i64 xm, AV.int .i64 xe]], [], AV.tuple [AV.int .i64 n, AV.int .i64 0], []⟩})], .reg [(1, {val := some (AV.bool false)})], .reg [(1, {call := some ⟨[], [AV.int .i64 n], [], AV.tuple [AV.agg [AV.int .i64 wm, AV.int .i64 we], AV.int .i64 wc], []⟩}), (5, {nm := [2]}), (6, {obj := some [AObj.cells [AV.int .i64 wm, AV.int .i64 we] 23]})], .reg [(1, {val := some (AV.int .i64 (n + 1))}), (2, {call := some ⟨[], [AV.int .i64 (n + 1)], [], AV.tuple [AV.agg [AV.int .i64 um, AV.int .i64 ue], AV.int .i64 uc], []⟩}), (6, {nm := [3]}), (7, {obj := some [AObj.cells [AV.int .i64 um, AV.int .i64 ue] 23]})], .reg [(3, {val := some (AV.bool true)}), (6, {val := some (AV.agg [AV.int .i64 wm, AV.int .i64 we])}), (7, {val := some (AV.agg [AV.int .i64 xm, AV.int .i64 xe])}), (8, {call := some ⟨[], [AV.agg [AV.int .i64 wm, AV.int .i64 we], AV.agg [AV.int .i64 xm, AV.int .i64 xe]], [], AV.int .i64 (cmpR wm we xm xe), []⟩}), (9, {val := some (AV.bool true)}), (13, {val := some (AV.bool true)})]] [{}]
        (r := ⟨[[] = renL [] [],
            Meets Try.prog 12 [] [] (AV.bool true) [],
            AV.bool (!true) = AV.bool false,
            0 ≤ 0,
            0 - 0 + 2 ≤ List.length [AV.int .i64 am, AV.int .i64 ae],
            List.take 2 (List.drop (0 - 0) [AV.int .i64 am, AV.int .i64 ae]) = [AV.int .i64 am, AV.int .i64 ae],
            [AV.agg [AV.int .i64 am, AV.int .i64 ae]] = renL [] [AV.agg [AV.int .i64 am, AV.int .i64 ae]],
            Meets Try.prog 18 [AV.agg [AV.int .i64 am, AV.int .i64 ae]] [] (AV.agg [AV.int .i64 xm, AV.int .i64 xe]) [],
            ([AV.int .i64 xm, AV.int .i64 xe] : List AV).length = 2,
            0 + 2 ≤ List.length [AV.int .i64 0, AV.int .i64 0],
            AObj.cells (List.take 0 [AV.int .i64 0, AV.int .i64 0] ++ [AV.int .i64 xm, AV.int .i64 xe] ++ List.drop (0 + 2) [AV.int .i64 0, AV.int .i64 0]) 23 = AObj.cells [AV.int .i64 xm, AV.int .i64 xe] 23,
            0 ≤ 0,
            0 - 0 + 2 ≤ List.length [AV.int .i64 xm, AV.int .i64 xe],
            List.take 2 (List.drop (0 - 0) [AV.int .i64 xm, AV.int .i64 xe]) = [AV.int .i64 xm, AV.int .i64 xe],
            [AV.agg [AV.int .i64 xm, AV.int .i64 xe]] = renL [] [AV.agg [AV.int .i64 xm, AV.int .i64 xe]],
            Meets Try.prog 26 [AV.agg [AV.int .i64 xm, AV.int .i64 xe]] [] (AV.tuple [AV.int .i64 n, AV.int .i64 0]) [],
            AV.bool ((0 : Int) != 0) = AV.bool false,
            [AV.int .i64 n] = renL [] [AV.int .i64 n],
            Meets Try.prog 15 [AV.int .i64 n] [] (AV.tuple [AV.agg [AV.int .i64 wm, AV.int .i64 we], AV.int .i64 wc]) [],
            ([AV.int .i64 wm, AV.int .i64 we] : List AV).length = 2,
            0 + 2 ≤ List.length [AV.int .i64 0, AV.int .i64 0],
            AObj.cells (List.take 0 [AV.int .i64 0, AV.int .i64 0] ++ [AV.int .i64 wm, AV.int .i64 we] ++ List.drop (0 + 2) [AV.int .i64 0, AV.int .i64 0]) 23 = AObj.cells [AV.int .i64 wm, AV.int .i64 we] 23,
            AV.int .i64 (IntKind.i64.wrap (n + 1)) = AV.int .i64 (n + 1),
            [AV.int .i64 (n + 1)] = renL [] [AV.int .i64 (n + 1)],
            Meets Try.prog 15 [AV.int .i64 (n + 1)] [] (AV.tuple [AV.agg [AV.int .i64 um, AV.int .i64 ue], AV.int .i64 uc]) [],
            ([AV.int .i64 um, AV.int .i64 ue] : List AV).length = 2,
            0 + 2 ≤ List.length [AV.int .i64 0, AV.int .i64 0],
            AObj.cells (List.take 0 [AV.int .i64 0, AV.int .i64 0] ++ [AV.int .i64 um, AV.int .i64 ue] ++ List.drop (0 + 2) [AV.int .i64 0, AV.int .i64 0]) 23 = AObj.cells [AV.int .i64 um, AV.int .i64 ue] 23,
            AV.bool (wc == 0) = AV.bool true,
            0 ≤ 0,
            0 - 0 + 2 ≤ List.length [AV.int .i64 wm, AV.int .i64 we],
            List.take 2 (List.drop (0 - 0) [AV.int .i64 wm, AV.int .i64 we]) = [AV.int .i64 wm, AV.int .i64 we],
            0 ≤ 0,
            0 - 0 + 2 ≤ List.length [AV.int .i64 xm, AV.int .i64 xe],
            List.take 2 (List.drop (0 - 0) [AV.int .i64 xm, AV.int .i64 xe]) = [AV.int .i64 xm, AV.int .i64 xe],
            [AV.agg [AV.int .i64 wm, AV.int .i64 we], AV.agg [AV.int .i64 xm, AV.int .i64 xe]] = renL [] [AV.agg [AV.int .i64 wm, AV.int .i64 we], AV.agg [AV.int .i64 xm, AV.int .i64 xe]],
            Meets Try.prog 27 [AV.agg [AV.int .i64 wm, AV.int .i64 we], AV.agg [AV.int .i64 xm, AV.int .i64 xe]] [] (AV.int .i64 (cmpR wm we xm xe)) [],
            AV.bool (decide ((cmpR wm we xm xe) ≤ 0)) = AV.bool true,
            AV.bool (uc != 0) = AV.bool true],
          .ret, ⟨[some (AV.agg [AV.int .i64 am, AV.int .i64 ae]), some (AV.ptr 0 0), some (AV.bool true), some (AV.bool true), some (AV.ptr 1 0), some (AV.int .i64 n), some (AV.int .i64 0), some (AV.ptr 2 0), some (AV.int .i64 wc), some (AV.ptr 3 0), some (AV.int .i64 uc), some (AV.bool true), some (AV.bool true), some (AV.bool false), some (AV.agg [AV.int .i64 am, AV.int .i64 ae]), some (AV.agg [AV.int .i64 xm, AV.int .i64 xe]), some (AV.tuple [AV.int .i64 n, AV.int .i64 0]), some (AV.agg [AV.int .i64 xm, AV.int .i64 xe]), some (AV.tuple [AV.int .i64 n, AV.int .i64 0]), some (AV.int .i64 n), some (AV.int .i64 0), some (AV.int .i64 0), some (AV.bool false), none, none, none, none, none, none, none, none, none, none, none, none, none, none, none, none, none, none, none, none, none, none, none, none, some (AV.tuple [AV.agg [AV.int .i64 wm, AV.int .i64 we], AV.int .i64 wc]), some (AV.int .i64 n), some (AV.tuple [AV.agg [AV.int .i64 wm, AV.int .i64 we], AV.int .i64 wc]), some (AV.agg [AV.int .i64 wm, AV.int .i64 we]), some (AV.int .i64 wc), some (AV.tuple [AV.agg [AV.int .i64 um, AV.int .i64 ue], AV.int .i64 uc]), some (AV.int .i64 n), some (AV.int .i64 (n + 1)), some (AV.tuple [AV.agg [AV.int .i64 um, AV.int .i64 ue], AV.int .i64 uc]), some (AV.agg [AV.int .i64 um, AV.int .i64 ue]), some (AV.int .i64 uc), some (AV.bool true), some (AV.bool true), some (AV.int .i64 wc), some (AV.bool true), some (AV.bool true), some (AV.bool true), some (AV.agg [AV.int .i64 wm, AV.int .i64 we]), some (AV.agg [AV.int .i64 xm, AV.int .i64 xe]), some (AV.int .i64 (cmpR wm we xm xe)), some (AV.bool true), some (AV.bool true), some (AV.bool true), some (AV.int .i64 uc), some (AV.bool true), some (AV.bool true), some (AV.tuple []), some (AV.tuple []), some (AV.tuple []), some (AV.tuple []), some (AV.bool true), some (AV.bool true)], [some (AObj.cells [AV.int .i64 am, AV.int .i64 ae] 23), some (AObj.cells [AV.int .i64 xm, AV.int .i64 xe] 23), some (AObj.cells [AV.int .i64 wm, AV.int .i64 we] 23), some (AObj.cells [AV.int .i64 um, AV.int .i64 ue] 23)]⟩, []⟩)
        (ob := [AV.bool true = AV.bool true])
        Try.func10 (by kernel_rfl) Try.call10 (by kernel_rfl)
        ⟨rfl, examples_meet, rfl, Nat.zero_le _, Nat.le_of_ble_eq_true rfl, rfl, rfl, kx, rfl, Nat.le_of_ble_eq_true rfl, rfl, Nat.zero_le _, Nat.le_of_ble_eq_true rfl, rfl, rfl, lit2 (floor_meets xm xe) (by rw [e0, c1]), boolE (by decide), rfl, kw, rfl, Nat.le_of_ble_eq_true rfl, rfl, wI (by omega), rfl, ku, rfl, Nat.le_of_ble_eq_true rfl, rfl, eqT ((hl c1).1), Nat.zero_le _, Nat.le_of_ble_eq_true rfl, rfl, Nat.zero_le _, Nat.le_of_ble_eq_true rfl, rfl, rfl, cmp_meets wm we xm xe, bT ((hl c1).2.1), neT c4, trivial⟩
        (.inl rfl) (by kernel_rfl) ⟨rfl, trivial⟩
  · exact meets_of_exec (fn := Try.f10) 4 [.reg [(0, {nm := [0]})], .reg [(0, {call := some ⟨[], [], [], AV.bool true, []⟩})], .reg [(1, {val := some (AV.bool false)})], .reg [(0, {val := some (AV.agg [AV.int .i64 am, AV.int .i64 ae])}), (1, {call := some ⟨[], [AV.agg [AV.int .i64 am, AV.int .i64 ae]], [], AV.agg [AV.int .i64 xm, AV.int .i64 xe], []⟩}), (2, {nm := [1]}), (3, {obj := some [AObj.cells [AV.int .i64 xm, AV.int .i64 xe] 23]})], .reg [(0, {val := some (AV.agg [AV.int .i64 xm, AV.int .i64 xe])}), (1, {call := some ⟨[], [AV.agg [AV.int .i64 xm, AV.int .i64 xe]], [], AV.tuple [AV.int .i64 0, AV.int .i64 10], []⟩})], .reg [(1, {val := some (AV.bool true)})], .reg [(3, {val := some (AV.bool true)}), (7, {val := some (AV.bool true)}), (11, {val := some (AV.int .i64 xe)}), (12, {val := some (AV.bool true)})]] [{}]
      (r := ⟨[[] = renL [] [],
          Meets Try.prog 12 [] [] (AV.bool true) [],
          AV.bool (!true) = AV.bool false,
          0 ≤ 0,
          0 - 0 + 2 ≤ List.length [AV.int .i64 am, AV.int .i64 ae],
          List.take 2 (List.drop (0 - 0) [AV.int .i64 am, AV.int .i64 ae]) = [AV.int .i64 am, AV.int .i64 ae],
          [AV.agg [AV.int .i64 am, AV.int .i64 ae]] = renL [] [AV.agg [AV.int .i64 am, AV.int .i64 ae]],
          Meets Try.prog 18 [AV.agg [AV.int .i64 am, AV.int .i64 ae]] [] (AV.agg [AV.int .i64 xm, AV.int .i64 xe]) [],
          ([AV.int .i64 xm, AV.int .i64 xe] : List AV).length = 2,
          0 + 2 ≤ List.length [AV.int .i64 0, AV.int .i64 0],
          AObj.cells (List.take 0 [AV.int .i64 0, AV.int .i64 0] ++ [AV.int .i64 xm, AV.int .i64 xe] ++ List.drop (0 + 2) [AV.int .i64 0, AV.int .i64 0]) 23 = AObj.cells [AV.int .i64 xm, AV.int .i64 xe] 23,
          0 ≤ 0,
          0 - 0 + 2 ≤ List.length [AV.int .i64 xm, AV.int .i64 xe],
          List.take 2 (List.drop (0 - 0) [AV.int .i64 xm, AV.int .i64 xe]) = [AV.int .i64 xm, AV.int .i64 xe],
          [AV.agg [AV.int .i64 xm, AV.int .i64 xe]] = renL [] [AV.agg [AV.int .i64 xm, AV.int .i64 xe]],
          Meets Try.prog 26 [AV.agg [AV.int .i64 xm, AV.int .i64 xe]] [] (AV.tuple [AV.int .i64 0, AV.int .i64 10]) [],
          AV.bool ((10 : Int) != 0) = AV.bool true,
          AV.bool ((10 : Int) == 10) = AV.bool true,
          AV.bool ((0 : Int) == 0) = AV.bool true,
          0 ≤ 1,
          ([AV.int .i64 xm, AV.int .i64 xe] : List AV)[1 - 0]? = some (AV.int .i64 xe),
          AV.bool (decide (xe > 0)) = AV.bool true],
        .ret, ⟨[some (AV.agg [AV.int .i64 am, AV.int .i64 ae]), some (AV.ptr 0 0), some (AV.bool true), some (AV.bool true), some (AV.ptr 1 0), some (AV.int .i64 0), some (AV.int .i64 10), none, none, none, none, some (AV.bool true), some (AV.bool true), some (AV.bool false), some (AV.agg [AV.int .i64 am, AV.int .i64 ae]), some (AV.agg [AV.int .i64 xm, AV.int .i64 xe]), some (AV.tuple [AV.int .i64 0, AV.int .i64 10]), some (AV.agg [AV.int .i64 xm, AV.int .i64 xe]), some (AV.tuple [AV.int .i64 0, AV.int .i64 10]), some (AV.int .i64 0), some (AV.int .i64 10), some (AV.int .i64 10), some (AV.bool true), some (AV.bool true), some (AV.bool true), some (AV.int .i64 10), some (AV.bool true), some (AV.bool true), some (AV.bool true), some (AV.int .i64 0), some (AV.bool true), some (AV.bool true), some (AV.bool true), some (AV.ptr 1 1), some (AV.int .i64 xe), some (AV.bool true), some (AV.bool true), some (AV.tuple []), some (AV.tuple []), some (AV.tuple []), some (AV.tuple []), some (AV.tuple []), some (AV.tuple []), some (AV.tuple []), some (AV.tuple []), some (AV.bool true), some (AV.bool true), none, none, none, none, none, none, none, none, none, none, none, none, none, none, none, none, none, none, none, none, none, none, none, none, none, none, none, none, none, none, none, none], [some (AObj.cells [AV.int .i64 am, AV.int .i64 ae] 23), some (AObj.cells [AV.int .i64 xm, AV.int .i64 xe] 23), none, none]⟩, []⟩)
      (ob := [AV.bool true = AV.bool true])
      Try.func10 (by kernel_rfl) Try.call10 (by kernel_rfl)
      ⟨rfl, examples_meet, rfl, Nat.zero_le _, Nat.le_of_ble_eq_true rfl, rfl, rfl, kx, rfl, Nat.le_of_ble_eq_true rfl, rfl, Nat.zero_le _, Nat.le_of_ble_eq_true rfl, rfl, rfl, lit2 (floor_meets xm xe) (floor_err hx (by rw [e0]; exact c1)).1, boolE (by decide), boolE (by decide), boolE (by decide), Nat.zero_le _, rfl, bT ((floor_err hx (by rw [e0]; exact c1)).2), trivial⟩
      (.inl rfl) (by kernel_rfl) ⟨rfl, trivial⟩

end Go.Proofs.Ytabgphldbgdbpaa
