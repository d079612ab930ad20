import Derived.Test.YtabgphldbgdbpaaDecAA
set_option linter.unusedVariables false
set_option linter.unusedSimpArgs false
set_option maxRecDepth 20000
namespace Go.Proofs.Ytabgphldbgdbpaa
open Go Sx Dc

set_option maxHeartbeats 4000000 in
theorem decOrder_meets (am ae bm be cm ce : Int) (ham : -9223372036854775808 ≤ am ∧ am < 9223372036854775808) (hae : -9223372036854775808 ≤ ae ∧ ae < 9223372036854775808) (hbm : -9223372036854775808 ≤ bm ∧ bm < 9223372036854775808) (hbe : -9223372036854775808 ≤ be ∧ be < 9223372036854775808) (hcm : -9223372036854775808 ≤ cm ∧ cm < 9223372036854775808) (hce : -9223372036854775808 ≤ ce ∧ ce < 9223372036854775808) : Meets Try.prog 7 [jA [jI am, jI ae], jA [jI bm, jI be], jA [jI cm, jI ce]] [] (jB true) [] := by
  obtain ⟨xm, xe, hx, kx⟩ : ∃ m e : Int, rightB m e = true ∧ Meets Try.prog 18 [AV.agg [AV.int .i64 am, AV.int .i64 ae]] [] (AV.agg [AV.int .i64 m, AV.int .i64 e]) [] := ⟨_, _, decOfR_right am ae, decOf_meets am ae (by omega) (by omega)⟩
  obtain ⟨ym, ye, hy, ky⟩ : ∃ m e : Int, rightB m e = true ∧ Meets Try.prog 18 [AV.agg [AV.int .i64 bm, AV.int .i64 be]] [] (AV.agg [AV.int .i64 m, AV.int .i64 e]) [] := ⟨_, _, decOfR_right bm be, decOf_meets bm be (by omega) (by omega)⟩
  obtain ⟨zm, ze, hz, kz⟩ : ∃ m e : Int, rightB m e = true ∧ Meets Try.prog 18 [AV.agg [AV.int .i64 cm, AV.int .i64 ce]] [] (AV.agg [AV.int .i64 m, AV.int .i64 e]) [] := ⟨_, _, decOfR_right cm ce, decOf_meets cm ce (by omega) (by omega)⟩
  obtain ⟨n, en⟩ : ∃ n : Int, cmpR xm xe ym ye = n := ⟨_, rfl⟩
  have kn := litI (cmp_meets xm xe ym ye) en
  have hr := cmpR_range xm xe ym ye
  have kt := litI (c := -n) (cmp_meets ym ye xm xe) (by rw [cmpR_turn, en])
  rw [en] at hr
  obtain ⟨dm, de, dc, ed⟩ : ∃ m e c : Int, subR xm xe ym ye = (m, e, c) := ⟨_, _, _, rfl⟩
  have kd := lit3 (sub_meets xm xe ym ye) ed
  have hs : dc = 0 → (dm < 0 ↔ n < 0) ∧ (dm > 0 ↔ n > 0) := fun h => by
    have := subR_sign hx hy (by rw [ed]; exact h)
    rw [ed, en] at this
    simpa only [decide_eq_decide] using this
  have o1 := oA (oC (examples_meet) rfl) <| oA (oS (show AV.bool (!true) = jB false from rfl)) <| oA (oLw ([jI am, jI ae]) (rfl)) <| oA (oC (kx) rfl) <| oA (oSw ([jI xm, jI xe]) ([jI 0, jI 0]) 23 (rfl) (rfl)) <| oA (oLw ([jI bm, jI be]) (rfl)) <| oA (oC (ky) rfl) <| oA (oSw ([jI ym, jI ye]) ([jI 0, jI 0]) 23 (rfl) (rfl)) <| oA (oLw ([jI cm, jI ce]) (rfl)) <| oA (oC (kz) rfl) <| oA (oSw ([jI zm, jI ze]) ([jI 0, jI 0]) 23 (rfl) (rfl)) <| oA (oLw ([jI xm, jI xe]) (rfl)) <| oA (oLw ([jI ym, jI ye]) (rfl)) <| oA (oC (kn) rfl) <| oA (oLw ([jI ym, jI ye]) (rfl)) <| oA (oLw ([jI xm, jI xe]) (rfl)) <| oA (oC (kt) rfl) <| oA (oW (0 - (-n)) (-(-n)) (by omega)) <| oS (show AV.bool (n != (-(-n))) = jB false from neF (by omega))
  let q1 : List Orc := [rG [hhN 0 0, hhN 1 1, hhN 2 2], rG [hhM 0 (examples_meet)], rG [hhB 1 false], rG [hhV 0 (jA [jI am, jI ae]), hhM 1 (kx), hhN 2 3, (3, {obj := some [jC [jI xm, jI xe] 23]})], rG [hhV 0 (jA [jI bm, jI be]), hhM 1 (ky), hhN 2 4, (3, {obj := some [jC [jI ym, jI ye] 23]})], rG [hhV 0 (jA [jI cm, jI ce]), hhM 1 (kz), hhN 2 5, (3, {obj := some [jC [jI zm, jI ze] 23]})], rG [hhV 0 (jA [jI xm, jI xe]), hhV 1 (jA [jI ym, jI ye]), hhM 2 (kn)]]
  by_cases c2 : n = 0
  · have o2 := oA (oS (eqT c2)) <| oA (oLw ([jI xm, jI xe]) (rfl)) <| oA (oLw ([jI ym, jI ye]) (rfl)) <| oA (oS (show AV.bool ((xm == ym) && ((xe == ye) && true)) = jB true from aggT4 (agg2 ((cmpR_same hx hy).1 (en.trans ‹n = 0›))))) <| oA (oS (show AV.bool (!(true == true)) = jB false from rfl)) <| oA (oS (show AV.bool (decide (n < (-1))) = jB false from bF (by omega))) <| oA (oS (show AV.bool (decide (n > 1)) = jB false from bF (by omega))) <| oA (oS (show AV.bool (decide (n ≤ 0)) = jB true from bT (by omega))) <| oA (oLw ([jI ym, jI ye]) (rfl)) <| oA (oLw ([jI zm, jI ze]) (rfl)) <| oC (cmp_meets ym ye zm ze) rfl
    let q2 : List Orc := [rG [hhV 1 (jA [jI ym, jI ye]), hhV 2 (jA [jI xm, jI xe]), hhM 3 (kt), hhI 4 (-(-n)), hhB 5 false, hhB 8 true, hhV 9 (jA [jI xm, jI xe]), hhV 10 (jA [jI ym, jI ye]), hhB 11 true, hhB 12 false, hhB 16 false, hhB 20 false]]
    by_cases c7 : (cmpR ym ye zm ze) ≤ 0
    · have o3 := oA (oS (bT c7)) <| oA (oLw ([jI xm, jI xe]) (rfl)) <| oA (oLw ([jI zm, jI ze]) (rfl)) <| oA (oC (cmp_meets xm xe zm ze) rfl) <| oA (oS (show AV.bool (decide ((cmpR xm xe zm ze) > 0)) = jB false from bF (by have := cmpR_trans hx hy hz (by rw [en]; omega) (by assumption); omega))) <| oA (oLw ([jI xm, jI xe]) (rfl)) <| oA (oLw ([jI ym, jI ye]) (rfl)) <| oA (oC (kd) rfl) <| oSw ([jI dm, jI de]) ([jI 0, jI 0]) 23 (rfl) (rfl)
      let q3 : List Orc := [rG [hhB 1 true, hhV 3 (jA [jI ym, jI ye]), hhV 4 (jA [jI zm, jI ze]), hhM 5 (cmp_meets ym ye zm ze), hhB 6 true, hhV 9 (jA [jI xm, jI xe]), hhV 10 (jA [jI zm, jI ze]), hhM 11 (cmp_meets xm xe zm ze), hhB 12 false], rG [hhV 0 (jA [jI xm, jI xe]), hhV 1 (jA [jI ym, jI ye]), hhM 2 (kd), hhN 6 6, (7, {obj := some [jC [jI dm, jI de] 23]})]]
      by_cases c9 : dc = 0
      · have o4 := oA (oS (neF c9)) <| oLf ([jI dm, jI de]) (0) (jI dm) (rfl)
        by_cases c10 : dm < 0
        · exact meets_run (fn := Try.f7) 7 (q1 ++ (q2 ++ (q3 ++ [rG [hhB 3 false, hhI 6 dm, hhB 7 true, hhB 9 true, hhB 10 true, hhI 13 dm, hhB 14 false, hhB 16 false, hhB 17 true]]))) [{}] Try.func7 (by kernel_rfl) Try.call7
            (oA o1 <| oA o2 <| oA o3 <| oA o4 <| oA (oS (bT c10)) <| oA (oS (show AV.bool (decide (n < 0)) = jB true from bT (by have := hs ‹dc = 0›; omega))) <| oA (oS (show AV.bool (true == true) = jB true from rfl)) <| oA (oLf ([jI dm, jI de]) (0) (jI dm) (rfl)) <| oA (oS (show AV.bool (decide (dm > 0)) = jB false from bF (by omega))) <| oA (oS (show AV.bool (decide (n > 0)) = jB false from bF (by have := hs ‹dc = 0›; omega))) <| oS (show AV.bool (false == false) = jB true from rfl))
            (oS (@rfl _ (jB true))) (by kernel_rfl)
        · have o5 := oA (oS (bF c10)) <| oA (oS (show AV.bool (decide (n < 0)) = jB false from bF (by have := hs ‹dc = 0›; omega))) <| oA (oS (show AV.bool (false == false) = jB true from rfl)) <| oLf ([jI dm, jI de]) (0) (jI dm) (rfl)
          by_cases c12 : dm > 0
          · exact meets_run (fn := Try.f7) 7 (q1 ++ (q2 ++ (q3 ++ [rG [hhB 3 false, hhI 6 dm, hhB 7 false, hhB 9 false, hhB 10 true, hhI 13 dm, hhB 14 true, hhB 16 true, hhB 17 true]]))) [{}] Try.func7 (by kernel_rfl) Try.call7
              (oA o1 <| oA o2 <| oA o3 <| oA o4 <| oA o5 <| oA (oS (bT c12)) <| oA (oS (show AV.bool (decide (n > 0)) = jB true from bT (by have := hs ‹dc = 0›; omega))) <| oS (show AV.bool (true == true) = jB true from rfl))
              (oS (@rfl _ (jB true))) (by kernel_rfl)
          · exact meets_run (fn := Try.f7) 7 (q1 ++ (q2 ++ (q3 ++ [rG [hhB 3 false, hhI 6 dm, hhB 7 false, hhB 9 false, hhB 10 true, hhI 13 dm, hhB 14 false, hhB 16 false, hhB 17 true]]))) [{}] Try.func7 (by kernel_rfl) Try.call7
              (oA o1 <| oA o2 <| oA o3 <| oA o4 <| oA o5 <| oA (oS (bF c12)) <| oA (oS (show AV.bool (decide (n > 0)) = jB false from bF (by have := hs ‹dc = 0›; omega))) <| oS (show AV.bool (false == false) = jB true from rfl))
              (oS (@rfl _ (jB true))) (by kernel_rfl)
      · exact meets_run (fn := Try.f7) 7 (q1 ++ (q2 ++ (q3 ++ [rG [hhB 3 true]]))) [{}] Try.func7 (by kernel_rfl) Try.call7
          (oA o1 <| oA o2 <| oA o3 <| oS (neT c9))
          (oS (@rfl _ (jB true))) (by kernel_rfl)
    · have o3 := oA (oS (bF c7)) <| oA (oLw ([jI xm, jI xe]) (rfl)) <| oA (oLw ([jI ym, jI ye]) (rfl)) <| oA (oC (kd) rfl) <| oSw ([jI dm, jI de]) ([jI 0, jI 0]) 23 (rfl) (rfl)
      let q3 : List Orc := [rG [hhB 1 true, hhV 3 (jA [jI ym, jI ye]), hhV 4 (jA [jI zm, jI ze]), hhM 5 (cmp_meets ym ye zm ze), hhB 6 false], rG [hhV 0 (jA [jI xm, jI xe]), hhV 1 (jA [jI ym, jI ye]), hhM 2 (kd), hhN 6 6, (7, {obj := some [jC [jI dm, jI de] 23]})]]
      by_cases c8 : dc = 0
      · have o4 := oA (oS (neF c8)) <| oLf ([jI dm, jI de]) (0) (jI dm) (rfl)
        by_cases c9 : dm < 0
        · exact meets_run (fn := Try.f7) 7 (q1 ++ (q2 ++ (q3 ++ [rG [hhB 3 false, hhI 6 dm, hhB 7 true, hhB 9 true, hhB 10 true, hhI 13 dm, hhB 14 false, hhB 16 false, hhB 17 true]]))) [{}] Try.func7 (by kernel_rfl) Try.call7
            (oA o1 <| oA o2 <| oA o3 <| oA o4 <| oA (oS (bT c9)) <| oA (oS (show AV.bool (decide (n < 0)) = jB true from bT (by have := hs ‹dc = 0›; omega))) <| oA (oS (show AV.bool (true == true) = jB true from rfl)) <| oA (oLf ([jI dm, jI de]) (0) (jI dm) (rfl)) <| oA (oS (show AV.bool (decide (dm > 0)) = jB false from bF (by omega))) <| oA (oS (show AV.bool (decide (n > 0)) = jB false from bF (by have := hs ‹dc = 0›; omega))) <| oS (show AV.bool (false == false) = jB true from rfl))
            (oS (@rfl _ (jB true))) (by kernel_rfl)
        · have o5 := oA (oS (bF c9)) <| oA (oS (show AV.bool (decide (n < 0)) = jB false from bF (by have := hs ‹dc = 0›; omega))) <| oA (oS (show AV.bool (false == false) = jB true from rfl)) <| oLf ([jI dm, jI de]) (0) (jI dm) (rfl)
          by_cases c11 : dm > 0
          · exact meets_run (fn := Try.f7) 7 (q1 ++ (q2 ++ (q3 ++ [rG [hhB 3 false, hhI 6 dm, hhB 7 false, hhB 9 false, hhB 10 true, hhI 13 dm, hhB 14 true, hhB 16 true, hhB 17 true]]))) [{}] Try.func7 (by kernel_rfl) Try.call7
              (oA o1 <| oA o2 <| oA o3 <| oA o4 <| oA o5 <| oA (oS (bT c11)) <| oA (oS (show AV.bool (decide (n > 0)) = jB true from bT (by have := hs ‹dc = 0›; omega))) <| oS (show AV.bool (true == true) = jB true from rfl))
              (oS (@rfl _ (jB true))) (by kernel_rfl)
          · exact meets_run (fn := Try.f7) 7 (q1 ++ (q2 ++ (q3 ++ [rG [hhB 3 false, hhI 6 dm, hhB 7 false, hhB 9 false, hhB 10 true, hhI 13 dm, hhB 14 false, hhB 16 false, hhB 17 true]]))) [{}] Try.func7 (by kernel_rfl) Try.call7
              (oA o1 <| oA o2 <| oA o3 <| oA o4 <| oA o5 <| oA (oS (bF c11)) <| oA (oS (show AV.bool (decide (n > 0)) = jB false from bF (by have := hs ‹dc = 0›; omega))) <| oS (show AV.bool (false == false) = jB true from rfl))
              (oS (@rfl _ (jB true))) (by kernel_rfl)
      · exact meets_run (fn := Try.f7) 7 (q1 ++ (q2 ++ (q3 ++ [rG [hhB 3 true]]))) [{}] Try.func7 (by kernel_rfl) Try.call7
          (oA o1 <| oA o2 <| oA o3 <| oS (neT c8))
          (oS (@rfl _ (jB true))) (by kernel_rfl)
  · have o2 := oA (oS (eqF c2)) <| oA (oLw ([jI xm, jI xe]) (rfl)) <| oA (oLw ([jI ym, jI ye]) (rfl)) <| oA (oS (show AV.bool ((xm == ym) && ((xe == ye) && true)) = jB false from aggF4 (agg2n (fun k => ‹¬ n = 0› (en.symm.trans ((cmpR_same hx hy).2 k)))))) <| oA (oS (show AV.bool (!(false == false)) = jB false from rfl)) <| oA (oS (show AV.bool (decide (n < (-1))) = jB false from bF (by omega))) <| oS (show AV.bool (decide (n > 1)) = jB false from bF (by omega))
    let q2 : List Orc := [rG [hhV 1 (jA [jI ym, jI ye]), hhV 2 (jA [jI xm, jI xe]), hhM 3 (kt), hhI 4 (-(-n)), hhB 5 false, hhB 8 false, hhV 9 (jA [jI xm, jI xe]), hhV 10 (jA [jI ym, jI ye]), hhB 11 false, hhB 12 false, hhB 16 false, hhB 20 false]]
    by_cases c6 : n ≤ 0
    · have o3 := oA (oS (bT c6)) <| oA (oLw ([jI ym, jI ye]) (rfl)) <| oA (oLw ([jI zm, jI ze]) (rfl)) <| oC (cmp_meets ym ye zm ze) rfl
      by_cases c7 : (cmpR ym ye zm ze) ≤ 0
      · have o4 := oA (oS (bT c7)) <| oA (oLw ([jI xm, jI xe]) (rfl)) <| oA (oLw ([jI zm, jI ze]) (rfl)) <| oA (oC (cmp_meets xm xe zm ze) rfl) <| oA (oS (show AV.bool (decide ((cmpR xm xe zm ze) > 0)) = jB false from bF (by have := cmpR_trans hx hy hz (by rw [en]; omega) (by assumption); omega))) <| oA (oLw ([jI xm, jI xe]) (rfl)) <| oA (oLw ([jI ym, jI ye]) (rfl)) <| oA (oC (kd) rfl) <| oSw ([jI dm, jI de]) ([jI 0, jI 0]) 23 (rfl) (rfl)
        let q3 : List Orc := [rG [hhB 1 true, hhV 3 (jA [jI ym, jI ye]), hhV 4 (jA [jI zm, jI ze]), hhM 5 (cmp_meets ym ye zm ze), hhB 6 true, hhV 9 (jA [jI xm, jI xe]), hhV 10 (jA [jI zm, jI ze]), hhM 11 (cmp_meets xm xe zm ze), hhB 12 false], rG [hhV 0 (jA [jI xm, jI xe]), hhV 1 (jA [jI ym, jI ye]), hhM 2 (kd), hhN 6 6, (7, {obj := some [jC [jI dm, jI de] 23]})]]
        by_cases c9 : dc = 0
        · have o5 := oA (oS (neF c9)) <| oLf ([jI dm, jI de]) (0) (jI dm) (rfl)
          by_cases c10 : dm < 0
          · exact meets_run (fn := Try.f7) 7 (q1 ++ (q2 ++ (q3 ++ [rG [hhB 3 false, hhI 6 dm, hhB 7 true, hhB 9 true, hhB 10 true, hhI 13 dm, hhB 14 false, hhB 16 false, hhB 17 true]]))) [{}] Try.func7 (by kernel_rfl) Try.call7
              (oA o1 <| oA o2 <| oA o3 <| oA o4 <| oA o5 <| oA (oS (bT c10)) <| oA (oS (show AV.bool (decide (n < 0)) = jB true from bT (by have := hs ‹dc = 0›; omega))) <| oA (oS (show AV.bool (true == true) = jB true from rfl)) <| oA (oLf ([jI dm, jI de]) (0) (jI dm) (rfl)) <| oA (oS (show AV.bool (decide (dm > 0)) = jB false from bF (by omega))) <| oA (oS (show AV.bool (decide (n > 0)) = jB false from bF (by have := hs ‹dc = 0›; omega))) <| oS (show AV.bool (false == false) = jB true from rfl))
              (oS (@rfl _ (jB true))) (by kernel_rfl)
          · have o6 := oA (oS (bF c10)) <| oA (oS (show AV.bool (decide (n < 0)) = jB false from bF (by have := hs ‹dc = 0›; omega))) <| oA (oS (show AV.bool (false == false) = jB true from rfl)) <| oLf ([jI dm, jI de]) (0) (jI dm) (rfl)
            by_cases c12 : dm > 0
            · exact meets_run (fn := Try.f7) 7 (q1 ++ (q2 ++ (q3 ++ [rG [hhB 3 false, hhI 6 dm, hhB 7 false, hhB 9 false, hhB 10 true, hhI 13 dm, hhB 14 true, hhB 16 true, hhB 17 true]]))) [{}] Try.func7 (by kernel_rfl) Try.call7
                (oA o1 <| oA o2 <| oA o3 <| oA o4 <| oA o5 <| oA o6 <| oA (oS (bT c12)) <| oA (oS (show AV.bool (decide (n > 0)) = jB true from bT (by have := hs ‹dc = 0›; omega))) <| oS (show AV.bool (true == true) = jB true from rfl))
                (oS (@rfl _ (jB true))) (by kernel_rfl)
            · exact meets_run (fn := Try.f7) 7 (q1 ++ (q2 ++ (q3 ++ [rG [hhB 3 false, hhI 6 dm, hhB 7 false, hhB 9 false, hhB 10 true, hhI 13 dm, hhB 14 false, hhB 16 false, hhB 17 true]]))) [{}] Try.func7 (by kernel_rfl) Try.call7
                (oA o1 <| oA o2 <| oA o3 <| oA o4 <| oA o5 <| oA o6 <| oA (oS (bF c12)) <| oA (oS (show AV.bool (decide (n > 0)) = jB false from bF (by have := hs ‹dc = 0›; omega))) <| oS (show AV.bool (false == false) = jB true from rfl))
                (oS (@rfl _ (jB true))) (by kernel_rfl)
        · exact meets_run (fn := Try.f7) 7 (q1 ++ (q2 ++ (q3 ++ [rG [hhB 3 true]]))) [{}] Try.func7 (by kernel_rfl) Try.call7
            (oA o1 <| oA o2 <| oA o3 <| oA o4 <| oS (neT c9))
            (oS (@rfl _ (jB true))) (by kernel_rfl)
      · have o4 := oA (oS (bF c7)) <| oA (oLw ([jI xm, jI xe]) (rfl)) <| oA (oLw ([jI ym, jI ye]) (rfl)) <| oA (oC (kd) rfl) <| oSw ([jI dm, jI de]) ([jI 0, jI 0]) 23 (rfl) (rfl)
        let q3 : List Orc := [rG [hhB 1 true, hhV 3 (jA [jI ym, jI ye]), hhV 4 (jA [jI zm, jI ze]), hhM 5 (cmp_meets ym ye zm ze), hhB 6 false], rG [hhV 0 (jA [jI xm, jI xe]), hhV 1 (jA [jI ym, jI ye]), hhM 2 (kd), hhN 6 6, (7, {obj := some [jC [jI dm, jI de] 23]})]]
        by_cases c8 : dc = 0
        · have o5 := oA (oS (neF c8)) <| oLf ([jI dm, jI de]) (0) (jI dm) (rfl)
          by_cases c9 : dm < 0
          · exact meets_run (fn := Try.f7) 7 (q1 ++ (q2 ++ (q3 ++ [rG [hhB 3 false, hhI 6 dm, hhB 7 true, hhB 9 true, hhB 10 true, hhI 13 dm, hhB 14 false, hhB 16 false, hhB 17 true]]))) [{}] Try.func7 (by kernel_rfl) Try.call7
              (oA o1 <| oA o2 <| oA o3 <| oA o4 <| oA o5 <| oA (oS (bT c9)) <| oA (oS (show AV.bool (decide (n < 0)) = jB true from bT (by have := hs ‹dc = 0›; omega))) <| oA (oS (show AV.bool (true == true) = jB true from rfl)) <| oA (oLf ([jI dm, jI de]) (0) (jI dm) (rfl)) <| oA (oS (show AV.bool (decide (dm > 0)) = jB false from bF (by omega))) <| oA (oS (show AV.bool (decide (n > 0)) = jB false from bF (by have := hs ‹dc = 0›; omega))) <| oS (show AV.bool (false == false) = jB true from rfl))
              (oS (@rfl _ (jB true))) (by kernel_rfl)
          · have o6 := oA (oS (bF c9)) <| oA (oS (show AV.bool (decide (n < 0)) = jB false from bF (by have := hs ‹dc = 0›; omega))) <| oA (oS (show AV.bool (false == false) = jB true from rfl)) <| oLf ([jI dm, jI de]) (0) (jI dm) (rfl)
            by_cases c11 : dm > 0
            · exact meets_run (fn := Try.f7) 7 (q1 ++ (q2 ++ (q3 ++ [rG [hhB 3 false, hhI 6 dm, hhB 7 false, hhB 9 false, hhB 10 true, hhI 13 dm, hhB 14 true, hhB 16 true, hhB 17 true]]))) [{}] Try.func7 (by kernel_rfl) Try.call7
                (oA o1 <| oA o2 <| oA o3 <| oA o4 <| oA o5 <| oA o6 <| oA (oS (bT c11)) <| oA (oS (show AV.bool (decide (n > 0)) = jB true from bT (by have := hs ‹dc = 0›; omega))) <| oS (show AV.bool (true == true) = jB true from rfl))
                (oS (@rfl _ (jB true))) (by kernel_rfl)
            · exact meets_run (fn := Try.f7) 7 (q1 ++ (q2 ++ (q3 ++ [rG [hhB 3 false, hhI 6 dm, hhB 7 false, hhB 9 false, hhB 10 true, hhI 13 dm, hhB 14 false, hhB 16 false, hhB 17 true]]))) [{}] Try.func7 (by kernel_rfl) Try.call7
                (oA o1 <| oA o2 <| oA o3 <| oA o4 <| oA o5 <| oA o6 <| oA (oS (bF c11)) <| oA (oS (show AV.bool (decide (n > 0)) = jB false from bF (by have := hs ‹dc = 0›; omega))) <| oS (show AV.bool (false == false) = jB true from rfl))
                (oS (@rfl _ (jB true))) (by kernel_rfl)
        · exact meets_run (fn := Try.f7) 7 (q1 ++ (q2 ++ (q3 ++ [rG [hhB 3 true]]))) [{}] Try.func7 (by kernel_rfl) Try.call7
            (oA o1 <| oA o2 <| oA o3 <| oA o4 <| oS (neT c8))
            (oS (@rfl _ (jB true))) (by kernel_rfl)
    · have o3 := oA (oS (bF c6)) <| oA (oLw ([jI xm, jI xe]) (rfl)) <| oA (oLw ([jI ym, jI ye]) (rfl)) <| oA (oC (kd) rfl) <| oSw ([jI dm, jI de]) ([jI 0, jI 0]) 23 (rfl) (rfl)
      let q3 : List Orc := [rG [hhB 1 false], rG [hhV 0 (jA [jI xm, jI xe]), hhV 1 (jA [jI ym, jI ye]), hhM 2 (kd), hhN 6 6, (7, {obj := some [jC [jI dm, jI de] 23]})]]
      by_cases c7 : dc = 0
      · have o4 := oA (oS (neF c7)) <| oLf ([jI dm, jI de]) (0) (jI dm) (rfl)
        by_cases c8 : dm < 0
        · exact meets_run (fn := Try.f7) 7 (q1 ++ (q2 ++ (q3 ++ [rG [hhB 3 false, hhI 6 dm, hhB 7 true, hhB 9 true, hhB 10 true, hhI 13 dm, hhB 14 false, hhB 16 false, hhB 17 true]]))) [{}] Try.func7 (by kernel_rfl) Try.call7
            (oA o1 <| oA o2 <| oA o3 <| oA o4 <| oA (oS (bT c8)) <| oA (oS (show AV.bool (decide (n < 0)) = jB true from bT (by have := hs ‹dc = 0›; omega))) <| oA (oS (show AV.bool (true == true) = jB true from rfl)) <| oA (oLf ([jI dm, jI de]) (0) (jI dm) (rfl)) <| oA (oS (show AV.bool (decide (dm > 0)) = jB false from bF (by omega))) <| oA (oS (show AV.bool (decide (n > 0)) = jB false from bF (by have := hs ‹dc = 0›; omega))) <| oS (show AV.bool (false == false) = jB true from rfl))
            (oS (@rfl _ (jB true))) (by kernel_rfl)
        · have o5 := oA (oS (bF c8)) <| oA (oS (show AV.bool (decide (n < 0)) = jB false from bF (by have := hs ‹dc = 0›; omega))) <| oA (oS (show AV.bool (false == false) = jB true from rfl)) <| oLf ([jI dm, jI de]) (0) (jI dm) (rfl)
          by_cases c10 : dm > 0
          · exact meets_run (fn := Try.f7) 7 (q1 ++ (q2 ++ (q3 ++ [rG [hhB 3 false, hhI 6 dm, hhB 7 false, hhB 9 false, hhB 10 true, hhI 13 dm, hhB 14 true, hhB 16 true, hhB 17 true]]))) [{}] Try.func7 (by kernel_rfl) Try.call7
              (oA o1 <| oA o2 <| oA o3 <| oA o4 <| oA o5 <| oA (oS (bT c10)) <| oA (oS (show AV.bool (decide (n > 0)) = jB true from bT (by have := hs ‹dc = 0›; omega))) <| oS (show AV.bool (true == true) = jB true from rfl))
              (oS (@rfl _ (jB true))) (by kernel_rfl)
          · exact meets_run (fn := Try.f7) 7 (q1 ++ (q2 ++ (q3 ++ [rG [hhB 3 false, hhI 6 dm, hhB 7 false, hhB 9 false, hhB 10 true, hhI 13 dm, hhB 14 false, hhB 16 false, hhB 17 true]]))) [{}] Try.func7 (by kernel_rfl) Try.call7
              (oA o1 <| oA o2 <| oA o3 <| oA o4 <| oA o5 <| oA (oS (bF c10)) <| oA (oS (show AV.bool (decide (n > 0)) = jB false from bF (by have := hs ‹dc = 0›; omega))) <| oS (show AV.bool (false == false) = jB true from rfl))
              (oS (@rfl _ (jB true))) (by kernel_rfl)
      · exact meets_run (fn := Try.f7) 7 (q1 ++ (q2 ++ (q3 ++ [rG [hhB 3 true]]))) [{}] Try.func7 (by kernel_rfl) Try.call7
          (oA o1 <| oA o2 <| oA o3 <| oS (neT c7))
          (oS (@rfl _ (jB true))) (by kernel_rfl)

end Go.Proofs.Ytabgphldbgdbpaa
