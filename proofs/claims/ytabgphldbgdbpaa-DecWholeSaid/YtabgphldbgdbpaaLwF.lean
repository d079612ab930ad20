import Derived.Test.YtabgphldbgdbpaaDecAA
import Derived.Test.YtabgphldbgdbpaaDecYA
set_option linter.unusedVariables false
set_option linter.unusedSimpArgs false
set_option maxRecDepth 20000
namespace Go.Proofs.Ytabgphldbgdbpaa
open Go Sx Dc

theorem tdiv_small (n m : Int) : (n.tdiv m).natAbs ≤ n.natAbs := by rw [Int.natAbs_tdiv]; exact Nat.div_le_self _ _

set_option maxHeartbeats 4000000 in
theorem decWhole_meets (a b : Int) (ha : -9223372036854775808 ≤ a ∧ a < 9223372036854775808) (hb : -9223372036854775808 ≤ b ∧ b < 9223372036854775808) : Meets Try.prog 6 [jI a, jI b] [] (jB true) [] := by
  obtain ⟨p, hp, kp⟩ : ∃ p : Int, (0 ≤ p ∧ p < 19999999) ∧ Meets Try.prog 19 [jI a, jI 19999999] [] (jI p) [] := ⟨_, pickR_range (by omega), pick_meets a 19999999 (by omega) (by omega)⟩
  obtain ⟨q, hq, kq⟩ : ∃ p : Int, (0 ≤ p ∧ p < 19999999) ∧ Meets Try.prog 19 [jI b, jI 19999999] [] (jI p) [] := ⟨_, pickR_range (by omega), pick_meets b 19999999 (by omega) (by omega)⟩
  obtain ⟨n, en⟩ : ∃ n : Int, p - 9999999 = n := ⟨_, rfl⟩
  obtain ⟨m, em⟩ : ∃ m : Int, q - 9999999 = m := ⟨_, rfl⟩
  obtain ⟨xm, xe, ex, hx, vx⟩ := ofR_val (n := n) (by omega)
  obtain ⟨ym, ye, ey, hy, vy⟩ := ofR_val (n := m) (by omega)
  have kx := lit3 (of_meets n (by omega)) ex
  have ky := lit3 (of_meets m (by omega)) ey
  have hnm := small_mul (n := n) (m := m) (by omega) (by omega)
  have htd := tdiv_small n m
  obtain ⟨sm, se, es, hs, vs⟩ := ofR_val (n := n + m) (by omega)
  obtain ⟨pm, pe, ep, hp', vp⟩ := ofR_val (n := n * m) (by omega)
  have g1 := lit3 (add_meets xm xe ym ye) ((whole_add hx hy vx vy (by omega)).trans es)
  have g2 := lit3 (mul_meets xm xe ym ye) ((whole_mul hx hy vx vy (by omega)).trans ep)
  have g3 := lit3 (of_meets (n + m) (by omega)) es
  have g4 := lit3 (of_meets (n * m) (by omega)) ep
  have g5 := lit2 (floor_meets pm pe) (floor_whole hp' vp (by omega))
  obtain ⟨qm, qe, qc, eq⟩ : ∃ m e c : Int, divR xm xe ym ye = (m, e, c) := ⟨_, _, _, rfl⟩
  have g6 := lit3 (div_meets xm xe ym ye) eq
  obtain ⟨low, lc, el⟩ : ∃ l c : Int, floorR qm qe = (l, c) := ⟨_, _, rfl⟩
  have g7 := lit2 (floor_meets qm qe) el
  have hw : m ≠ 0 → qc = 0 ∧ lc = 0 ∧ (n.tmod m ≠ 0 → ¬ (n < 0 ↔ m < 0) → low = n.tdiv m - 1 ∨ low = n.tdiv m) ∧ ((n.tmod m = 0 ∨ (n < 0 ↔ m < 0)) → low = n.tdiv m ∨ low = n.tdiv m + 1) := fun h => by
    obtain ⟨a', b', l', w1, w2, w3, w4⟩ := whole_div hx hy vx vy (by omega) h
    rw [eq] at w1
    simp only [Prod.mk.injEq] at w1
    obtain ⟨rfl, rfl, rfl⟩ := w1
    rw [el] at w2
    simp only [Prod.mk.injEq] at w2
    obtain ⟨rfl, rfl⟩ := w2
    exact ⟨rfl, rfl, w3, w4⟩
  have o1 := oA (oC (examples_meet) rfl) <| oA (oS (show AV.bool (!true) = jB false from rfl)) <| oA (oC (kp) rfl) <| oA (oW (p - 9999999) (n) (by omega)) <| oA (oC (kq) rfl) <| oA (oW (q - 9999999) (m) (by omega)) <| oA (oC (kx) rfl) <| oA (oSw ([jI xm, jI xe]) ([jI 0, jI 0]) 23 (rfl) (rfl)) <| oA (oC (ky) rfl) <| oA (oSw ([jI ym, jI ye]) ([jI 0, jI 0]) 23 (rfl) (rfl)) <| oA (oLw ([jI xm, jI xe]) (rfl)) <| oA (oLw ([jI ym, jI ye]) (rfl)) <| oA (oC (g1) rfl) <| oA (oSw ([jI sm, jI se]) ([jI 0, jI 0]) 23 (rfl) (rfl)) <| oA (oLw ([jI xm, jI xe]) (rfl)) <| oA (oLw ([jI ym, jI ye]) (rfl)) <| oA (oC (g2) rfl) <| oA (oSw ([jI pm, jI pe]) ([jI 0, jI 0]) 23 (rfl) (rfl)) <| oA (oWs (n + m) (by omega)) <| oA (oC (g3) rfl) <| oA (oSw ([jI sm, jI se]) ([jI 0, jI 0]) 23 (rfl) (rfl)) <| oA (oWs (n * m) (by omega)) <| oA (oC (g4) rfl) <| oA (oSw ([jI pm, jI pe]) ([jI 0, jI 0]) 23 (rfl) (rfl)) <| oA (oLw ([jI pm, jI pe]) (rfl)) <| oA (oC (g5) rfl) <| oA (oS (show AV.bool ((0 : Int) != 0) = jB false from boolE (by decide))) <| oA (oS (show AV.bool ((0 : Int) != 0) = jB false from boolE (by decide))) <| oA (oS (show AV.bool ((0 : Int) != 0) = jB false from boolE (by decide))) <| oA (oS (show AV.bool ((0 : Int) != 0) = jB false from boolE (by decide))) <| oA (oS (show AV.bool ((0 : Int) != 0) = jB false from boolE (by decide))) <| oA (oS (show AV.bool ((0 : Int) != 0) = jB false from boolE (by decide))) <| oA (oLw ([jI sm, jI se]) (rfl)) <| oA (oLw ([jI sm, jI se]) (rfl)) <| oA (oS (show AV.bool (!((sm == sm) && ((se == se) && true))) = jB false from aggNF rfl)) <| oA (oLw ([jI pm, jI pe]) (rfl)) <| oA (oLw ([jI pm, jI pe]) (rfl)) <| oA (oS (show AV.bool (!((pm == pm) && ((pe == pe) && true))) = jB false from aggNF rfl)) <| oA (oS (show AV.bool ((0 : Int) != 0) = jB false from boolE (by decide))) <| oA (oWs (n * m) (by omega)) <| oS (show AV.bool ((n * m) != (n * m)) = jB false from neF rfl)
  let q1 : List Orc := [rG [], rG [hhM 0 (examples_meet)], rG [hhB 1 false], rG [hhM 1 (kp), hhI 2 n], rG [hhM 1 (kq), hhI 2 m], rG [hhM 1 (kx), hhN 5 0, (6, {obj := some [jC [jI xm, jI xe] 23]})], rG [hhM 1 (ky), hhN 5 1, (6, {obj := some [jC [jI ym, jI ye] 23]})], rG [hhV 0 (jA [jI xm, jI xe]), hhV 1 (jA [jI ym, jI ye]), hhM 2 (g1), hhN 6 2, (7, {obj := some [jC [jI sm, jI se] 23]})], rG [hhV 0 (jA [jI xm, jI xe]), hhV 1 (jA [jI ym, jI ye]), hhM 2 (g2), hhN 6 3, (7, {obj := some [jC [jI pm, jI pe] 23]})], rG [hhI 2 (n + m), hhM 3 (g3), hhN 7 4, (8, {obj := some [jC [jI sm, jI se] 23]})], rG [hhI 2 (n * m), hhM 3 (g4), hhN 7 5, (8, {obj := some [jC [jI pm, jI pe] 23]})], rG [hhV 0 (jA [jI pm, jI pe]), hhM 1 (g5)], rG [hhB 1 false, hhB 4 false, hhB 8 false, hhB 12 false, hhB 16 false, hhB 20 false, hhV 23 (jA [jI sm, jI se]), hhV 24 (jA [jI sm, jI se]), hhB 25 false, hhV 28 (jA [jI pm, jI pe]), hhV 29 (jA [jI pm, jI pe]), hhB 30 false, hhB 34 false, hhI 40 (n * m), hhB 41 false]]
  by_cases c4 : m = 0
  · exact meets_run (fn := Try.f6) 7 (q1 ++ [rG [hhB 1 true], rG []]) [{}] Try.func6 (by kernel_rfl) Try.call6
      (oA o1 <| oS (eqT c4))
      (oS (@rfl _ (jB true))) (by kernel_rfl)
  · have o2 := oA (oS (eqF c4)) <| oA (oLw ([jI xm, jI xe]) (rfl)) <| oA (oLw ([jI ym, jI ye]) (rfl)) <| oA (oC (g6) rfl) <| oA (oSw ([jI qm, jI qe]) ([jI 0, jI 0]) 23 (rfl) (rfl)) <| oA (oLw ([jI qm, jI qe]) (rfl)) <| oA (oC (g7) rfl) <| oA (oS (show (m : Int) ≠ 0 from by omega)) <| oA (oS (show AV.int .i64 (IntKind.i64.wrap (n.tdiv m)) = jI (n.tdiv m) from tdivI (by omega))) <| oS (show (m : Int) ≠ 0 from by omega)
    let q2 : List Orc := [rG [hhB 1 false], rG [hhV 0 (jA [jI xm, jI xe]), hhV 1 (jA [jI ym, jI ye]), hhM 2 (g6), hhN 6 6, (7, {obj := some [jC [jI qm, jI qe] 23]})], rG [hhV 0 (jA [jI qm, jI qe]), hhM 1 (g7)], rG [hhI 2 (n.tdiv m)]]
    by_cases c5 : (n.tmod m) = 0
    · have o3 := oA (oS (neF c5)) <| oA (oS (show AV.bool (qc == 0) = jB true from eqT ((hw ‹¬ m = 0›).1))) <| oS (show AV.bool (lc == 0) = jB true from eqT ((hw ‹¬ m = 0›).2.1))
      let q3 : List Orc := [rG [hhB 3 false]]
      by_cases c8 : low = (n.tdiv m)
      · exact meets_run (fn := Try.f6) 7 (q1 ++ (q2 ++ (q3 ++ [rG [hhB 3 true, hhB 7 true, hhB 12 true]]))) [{}] Try.func6 (by kernel_rfl) Try.call6
          (oA o1 <| oA o2 <| oA o3 <| oS (eqT c8))
          (oS (@rfl _ (jB true))) (by kernel_rfl)
      · exact meets_run (fn := Try.f6) 7 (q1 ++ (q2 ++ (q3 ++ [rG [hhB 3 true, hhB 7 true, hhB 12 false, hhI 16 ((n.tdiv m) + 1), hhB 17 true]]))) [{}] Try.func6 (by kernel_rfl) Try.call6
          (oA o1 <| oA o2 <| oA o3 <| oA (oS (eqF c8)) <| oA (oWs ((n.tdiv m) + 1) (by omega)) <| oS (show AV.bool (low == ((n.tdiv m) + 1)) = jB true from eqT (by have := (hw ‹¬ m = 0›).2.2.2 (by first | exact .inl ‹_› | exact .inr (by omega)); omega)))
          (oS (@rfl _ (jB true))) (by kernel_rfl)
    · by_cases c6 : n < 0
      · have o3 := oA (oS (neT c5)) <| oS (bT c6)
        by_cases c7 : m < 0
        · have o4 := oA (oS (bT c7)) <| oA (oS (show AV.bool (!(true == true)) = jB false from rfl)) <| oA (oS (show AV.bool (qc == 0) = jB true from eqT ((hw ‹¬ m = 0›).1))) <| oS (show AV.bool (lc == 0) = jB true from eqT ((hw ‹¬ m = 0›).2.1))
          let q3 : List Orc := [rG [hhB 3 true, hhB 6 true, hhB 8 true, hhB 9 false]]
          by_cases c10 : low = (n.tdiv m)
          · exact meets_run (fn := Try.f6) 7 (q1 ++ (q2 ++ (q3 ++ [rG [hhB 3 true, hhB 7 true, hhB 12 true]]))) [{}] Try.func6 (by kernel_rfl) Try.call6
              (oA o1 <| oA o2 <| oA o3 <| oA o4 <| oS (eqT c10))
              (oS (@rfl _ (jB true))) (by kernel_rfl)
          · exact meets_run (fn := Try.f6) 7 (q1 ++ (q2 ++ (q3 ++ [rG [hhB 3 true, hhB 7 true, hhB 12 false, hhI 16 ((n.tdiv m) + 1), hhB 17 true]]))) [{}] Try.func6 (by kernel_rfl) Try.call6
              (oA o1 <| oA o2 <| oA o3 <| oA o4 <| oA (oS (eqF c10)) <| oA (oWs ((n.tdiv m) + 1) (by omega)) <| oS (show AV.bool (low == ((n.tdiv m) + 1)) = jB true from eqT (by have := (hw ‹¬ m = 0›).2.2.2 (by first | exact .inl ‹_› | exact .inr (by omega)); omega)))
              (oS (@rfl _ (jB true))) (by kernel_rfl)
        · have o4 := oA (oS (bF c7)) <| oA (oS (show AV.bool (!(true == false)) = jB true from rfl)) <| oA (oWs ((n.tdiv m) - 1) (by omega)) <| oA (oS (show AV.bool (qc == 0) = jB true from eqT ((hw ‹¬ m = 0›).1))) <| oS (show AV.bool (lc == 0) = jB true from eqT ((hw ‹¬ m = 0›).2.1))
          let q3 : List Orc := [rG [hhB 3 true, hhB 6 true, hhB 8 false, hhB 9 true], rG [hhI 1 ((n.tdiv m) - 1)]]
          by_cases c10 : low = ((n.tdiv m) - 1)
          · exact meets_run (fn := Try.f6) 7 (q1 ++ (q2 ++ (q3 ++ [rG [hhB 3 true, hhB 7 true, hhB 12 true]]))) [{}] Try.func6 (by kernel_rfl) Try.call6
              (oA o1 <| oA o2 <| oA o3 <| oA o4 <| oS (eqT c10))
              (oS (@rfl _ (jB true))) (by kernel_rfl)
          · exact meets_run (fn := Try.f6) 7 (q1 ++ (q2 ++ (q3 ++ [rG [hhB 3 true, hhB 7 true, hhB 12 false, hhI 16 (((n.tdiv m) - 1) + 1), hhB 17 true]]))) [{}] Try.func6 (by kernel_rfl) Try.call6
              (oA o1 <| oA o2 <| oA o3 <| oA o4 <| oA (oS (eqF c10)) <| oA (oWs (((n.tdiv m) - 1) + 1) (by omega)) <| oS (show AV.bool (low == (((n.tdiv m) - 1) + 1)) = jB true from eqT (by have := (hw ‹¬ m = 0›).2.2.1 ‹_› (by omega); omega)))
              (oS (@rfl _ (jB true))) (by kernel_rfl)
      · have o3 := oA (oS (neT c5)) <| oS (bF c6)
        by_cases c7 : m < 0
        · have o4 := oA (oS (bT c7)) <| oA (oS (show AV.bool (!(false == true)) = jB true from rfl)) <| oA (oWs ((n.tdiv m) - 1) (by omega)) <| oA (oS (show AV.bool (qc == 0) = jB true from eqT ((hw ‹¬ m = 0›).1))) <| oS (show AV.bool (lc == 0) = jB true from eqT ((hw ‹¬ m = 0›).2.1))
          let q3 : List Orc := [rG [hhB 3 true, hhB 6 false, hhB 8 true, hhB 9 true], rG [hhI 1 ((n.tdiv m) - 1)]]
          by_cases c10 : low = ((n.tdiv m) - 1)
          · exact meets_run (fn := Try.f6) 7 (q1 ++ (q2 ++ (q3 ++ [rG [hhB 3 true, hhB 7 true, hhB 12 true]]))) [{}] Try.func6 (by kernel_rfl) Try.call6
              (oA o1 <| oA o2 <| oA o3 <| oA o4 <| oS (eqT c10))
              (oS (@rfl _ (jB true))) (by kernel_rfl)
          · exact meets_run (fn := Try.f6) 7 (q1 ++ (q2 ++ (q3 ++ [rG [hhB 3 true, hhB 7 true, hhB 12 false, hhI 16 (((n.tdiv m) - 1) + 1), hhB 17 true]]))) [{}] Try.func6 (by kernel_rfl) Try.call6
              (oA o1 <| oA o2 <| oA o3 <| oA o4 <| oA (oS (eqF c10)) <| oA (oWs (((n.tdiv m) - 1) + 1) (by omega)) <| oS (show AV.bool (low == (((n.tdiv m) - 1) + 1)) = jB true from eqT (by have := (hw ‹¬ m = 0›).2.2.1 ‹_› (by omega); omega)))
              (oS (@rfl _ (jB true))) (by kernel_rfl)
        · have o4 := oA (oS (bF c7)) <| oA (oS (show AV.bool (!(false == false)) = jB false from rfl)) <| oA (oS (show AV.bool (qc == 0) = jB true from eqT ((hw ‹¬ m = 0›).1))) <| oS (show AV.bool (lc == 0) = jB true from eqT ((hw ‹¬ m = 0›).2.1))
          let q3 : List Orc := [rG [hhB 3 true, hhB 6 false, hhB 8 false, hhB 9 false]]
          by_cases c10 : low = (n.tdiv m)
          · exact meets_run (fn := Try.f6) 7 (q1 ++ (q2 ++ (q3 ++ [rG [hhB 3 true, hhB 7 true, hhB 12 true]]))) [{}] Try.func6 (by kernel_rfl) Try.call6
              (oA o1 <| oA o2 <| oA o3 <| oA o4 <| oS (eqT c10))
              (oS (@rfl _ (jB true))) (by kernel_rfl)
          · exact meets_run (fn := Try.f6) 7 (q1 ++ (q2 ++ (q3 ++ [rG [hhB 3 true, hhB 7 true, hhB 12 false, hhI 16 ((n.tdiv m) + 1), hhB 17 true]]))) [{}] Try.func6 (by kernel_rfl) Try.call6
              (oA o1 <| oA o2 <| oA o3 <| oA o4 <| oA (oS (eqF c10)) <| oA (oWs ((n.tdiv m) + 1) (by omega)) <| oS (show AV.bool (low == ((n.tdiv m) + 1)) = jB true from eqT (by have := (hw ‹¬ m = 0›).2.2.2 (by first | exact .inl ‹_› | exact .inr (by omega)); omega)))
              (oS (@rfl _ (jB true))) (by kernel_rfl)

end Go.Proofs.Ytabgphldbgdbpaa
