import Derived.Test.YtabgphldbgdbpaaDecAA
import Derived.Test.YtabgphldbgdbpaaDecYB
set_option linter.unusedVariables false
set_option linter.unusedSimpArgs false
set_option maxRecDepth 20000
namespace Go.Proofs.Ytabgphldbgdbpaa
open Go Sx Dc

theorem few90 {s : List UInt8} : List.take (Int.toNat (min ((s.length : Nat) : Int) 90) - 0) (List.drop 0 s) = s.take 90 := by
  rw [List.drop_zero, List.take_eq_take_iff]; omega

set_option maxHeartbeats 4000000 in
theorem decText_meets (am ae bm be : Int) (s : List UInt8) (ham : -9223372036854775808 ≤ am ∧ am < 9223372036854775808) (hae : -9223372036854775808 ≤ ae ∧ ae < 9223372036854775808) (hbm : -9223372036854775808 ≤ bm ∧ bm < 9223372036854775808) (hbe : -9223372036854775808 ≤ be ∧ be < 9223372036854775808) (hs : s.length ≤ 9223372036854775807) : Meets Try.prog 11 [jA [jI am, jI ae], jA [jI bm, jI be], jS s] [] (jB true) [] := by
  obtain ⟨xm, xe, hx, kx⟩ : ∃ m e : Int, rightB m e = true ∧ Meets Try.prog 18 [AV.agg [AV.int .i64 am, AV.int .i64 ae]] [] (AV.agg [AV.int .i64 m, AV.int .i64 e]) [] := ⟨_, _, decOfR_right am ae, decOf_meets am ae (by omega) (by omega)⟩
  obtain ⟨ym, ye, hy, ky⟩ : ∃ m e : Int, rightB m e = true ∧ Meets Try.prog 18 [AV.agg [AV.int .i64 bm, AV.int .i64 be]] [] (AV.agg [AV.int .i64 m, AV.int .i64 e]) [] := ⟨_, _, decOfR_right bm be, decOf_meets bm be (by omega) (by omega)⟩
  obtain ⟨tx, wx, rx, nx, zx, lx⟩ := text_law hx
  have gx := litT (text_meets xm xe) wx
  obtain ⟨ty, wy, ry, ny, zy, ly⟩ := text_law hy
  have gy := litT (text_meets ym ye) wy
  have k1 := lit3 (read_meets tx (by omega)) rx
  obtain ⟨om, oe, oc, eo⟩ : ∃ m e c : Int, readR ([48] ++ tx) = (m, e, c) := ⟨_, _, _, rfl⟩
  have k2 := lit3 (read_meets ([48] ++ tx) (by simp; omega)) eo
  rw [eo] at nx zx
  simp only [Prod.mk.injEq] at nx zx
  obtain ⟨zm, ze, zc, ez, hz, cz⟩ := read_cases (s.take 90)
  have k3 := lit3 (read_meets (s.take 90) (by simp; omega)) ez
  obtain ⟨tz, wz, rz, nz, zz, lz⟩ := text_law hz
  have gz := litT (text_meets zm ze) wz
  have k4 := lit3 (read_meets tz (by omega)) rz
  have o1 := oA (oC (examples_meet) rfl) <| oA (oS (show AV.bool (!true) = jB false from rfl)) <| oA (oLw ([jI am, jI ae]) (rfl)) <| oA (oC (kx) rfl) <| oA (oSw ([jI xm, jI xe]) ([jI 0, jI 0]) 23 (rfl) (rfl)) <| oA (oLw ([jI bm, jI be]) (rfl)) <| oA (oC (ky) rfl) <| oA (oSw ([jI ym, jI ye]) ([jI 0, jI 0]) 23 (rfl) (rfl)) <| oA (oLw ([jI xm, jI xe]) (rfl)) <| oA (oC (gx) rfl) <| oA (oLw ([jI ym, jI ye]) (rfl)) <| oA (oC (gy) rfl) <| oA (oC (k1) rfl) <| oA (oSw ([jI xm, jI xe]) ([jI 0, jI 0]) 23 (rfl) (rfl)) <| oA (oS (show List.length [48] + List.length tx ≤ 9223372036854775807 from (by simp only [List.length_cons, List.length_nil]; omega))) <| oA (oS (show AV.str ([48] ++ tx) = jS ([48] ++ tx) from rfl)) <| oA (oC (k2) rfl) <| oA (oSw ([jI om, jI oe]) ([jI 0, jI 0]) 23 (rfl) (rfl)) <| oA (oS (show AV.int .i64 (if 90 < ((s.length : Nat) : Int) then 90 else ((s.length : Nat) : Int)) = jI (min ((s.length : Nat) : Int) 90) from minI)) <| oA (oS (show 0 ≤ ((min ((s.length : Nat) : Int) 90) : Int) from by omega)) <| oA (oS (show (0 : Nat) ≤ (Int.toNat ((min ((s.length : Nat) : Int) 90))) from by omega)) <| oA (oS (show ((Int.toNat ((min ((s.length : Nat) : Int) 90))) : Nat) ≤ s.length from by omega)) <| oA (oS (show (s.length : Nat) ≤ s.length from by omega)) <| oA (oS (show AV.str (List.take ((Int.toNat ((min ((s.length : Nat) : Int) 90))) - 0) (List.drop 0 s)) = jS (s.take 90) from strE few90)) <| oA (oC (k3) rfl) <| oA (oSw ([jI zm, jI ze]) ([jI 0, jI 0]) 23 (rfl) (rfl)) <| oA (oLw ([jI zm, jI ze]) (rfl)) <| oA (oC (gz) rfl) <| oA (oC (k4) rfl) <| oA (oSw ([jI zm, jI ze]) ([jI 0, jI 0]) 23 (rfl) (rfl)) <| oA (oS (show AV.bool ((0 : Int) != 0) = jB false from boolE (by decide))) <| oA (oS (show AV.bool ((0 : Int) != 0) = jB false from boolE (by decide))) <| oA (oS (show AV.bool ((0 : Int) != 0) = jB false from boolE (by decide))) <| oA (oLw ([jI xm, jI xe]) (rfl)) <| oA (oLw ([jI xm, jI xe]) (rfl)) <| oS (show AV.bool (!((xm == xm) && ((xe == xe) && true))) = jB false from aggNF rfl)
  let q1 : List Orc := [rG [hhN 0 0, hhN 1 1], rG [hhM 0 (examples_meet)], rG [hhB 1 false], rG [hhV 0 (jA [jI am, jI ae]), hhM 1 (kx), hhN 2 2, (3, {obj := some [jC [jI xm, jI xe] 23]})], rG [hhV 0 (jA [jI bm, jI be]), hhM 1 (ky), hhN 2 3, (3, {obj := some [jC [jI ym, jI ye] 23]})], rG [hhV 0 (jA [jI xm, jI xe]), hhM 1 (gx)], rG [hhV 0 (jA [jI ym, jI ye]), hhM 1 (gy)], rG [hhM 1 (k1), hhN 5 4, (6, {obj := some [jC [jI xm, jI xe] 23]})], rG [hhV 1 (jS ([48] ++ tx)), hhM 2 (k2), hhN 6 5, (7, {obj := some [jC [jI om, jI oe] 23]})], rG [hhI 3 (min ((s.length : Nat) : Int) 90), hhV 4 (jS (s.take 90)), hhM 5 (k3), hhN 9 6, (10, {obj := some [jC [jI zm, jI ze] 23]})], rG [hhV 0 (jA [jI zm, jI ze]), hhM 1 (gz)], rG [hhM 1 (k4), hhN 5 7, (6, {obj := some [jC [jI zm, jI ze] 23]})]]
  by_cases c2 : tx = ty
  · have o2 := oA (oS (eqT c2)) <| oA (oLw ([jI xm, jI xe]) (rfl)) <| oA (oLw ([jI ym, jI ye]) (rfl)) <| oA (oS (show AV.bool ((xm == ym) && ((xe == ye) && true)) = jB true from aggT4 (agg2 (by have := rx; rw [‹tx = ty›, ry] at this; simp only [Prod.mk.injEq] at this; exact ⟨this.1.symm, this.2.1.symm⟩)))) <| oA (oS (show AV.bool (!(true == true)) = jB false from rfl)) <| oLf ([jI xm, jI xe]) (0) (jI xm) (rfl)
    let q2 : List Orc := [rG [hhB 1 false, hhB 4 false, hhB 8 false, hhV 11 (jA [jI xm, jI xe]), hhV 12 (jA [jI xm, jI xe]), hhB 13 false, hhB 18 true, hhV 19 (jA [jI xm, jI xe]), hhV 20 (jA [jI ym, jI ye]), hhB 21 true, hhB 22 false]]
    by_cases c4 : xm < 0
    · have o3 := oA (oS (bT c4)) <| oA (oS (show AV.bool (oc != 12) = jB false from neF ((nx ‹xm < 0›).2.2))) <| oA (oLf ([jI xm, jI xe]) (0) (jI xm) (rfl)) <| oS (show AV.bool (decide (xm ≥ 0)) = jB false from bF (by omega))
      let q3 : List Orc := [rG [hhI 1 xm, hhB 2 true, hhB 5 false, hhI 9 xm, hhB 10 false]]
      by_cases c7 : zc = 0
      · exact meets_run (fn := Try.f11) 8 (q1 ++ (q2 ++ (q3 ++ [rG [hhB 3 true, hhB 6 true, hhB 10 true, hhV 13 (jA [jI zm, jI ze]), hhV 14 (jA [jI zm, jI ze]), hhB 15 true]]))) [{}] Try.func11 (by kernel_rfl) Try.call11
          (oA o1 <| oA o2 <| oA o3 <| oA (oS (eqT c7)) <| oA (oS (show AV.bool ((0 : Int) == 0) = jB true from boolE (by decide))) <| oA (oS (show AV.bool ((0 : Int) == 0) = jB true from boolE (by decide))) <| oA (oLw ([jI zm, jI ze]) (rfl)) <| oA (oLw ([jI zm, jI ze]) (rfl)) <| oS (show AV.bool ((zm == zm) && ((ze == ze) && true)) = jB true from aggT4 rfl))
          (oS (@rfl _ (jB true))) (by kernel_rfl)
      · by_cases c8 : zc = 12
        · exact meets_run (fn := Try.f11) 8 (q1 ++ (q2 ++ (q3 ++ [rG [hhB 3 false, hhB 19 true, hhV 21 (jA [jI zm, jI ze]), hhB 23 true]]))) [{}] Try.func11 (by kernel_rfl) Try.call11
            (oA o1 <| oA o2 <| oA o3 <| oA (oS (eqF c7)) <| oA (oS (eqT c8)) <| oA (oLw ([jI zm, jI ze]) (rfl)) <| oS (show AV.bool ((zm == (0 : Int)) && ((ze == (0 : Int)) && true)) = jB true from aggT4 (agg2 (by omega))))
            (oS (@rfl _ (jB true))) (by kernel_rfl)
        · exact meets_run (fn := Try.f11) 8 (q1 ++ (q2 ++ (q3 ++ [rG [hhB 3 false, hhB 19 false, hhB 28 true, hhV 30 (jA [jI zm, jI ze]), hhB 32 true]]))) [{}] Try.func11 (by kernel_rfl) Try.call11
            (oA o1 <| oA o2 <| oA o3 <| oA (oS (eqF c7)) <| oA (oS (eqF c8)) <| oA (oS (show AV.bool (zc == 10) = jB true from eqT (by omega))) <| oA (oLw ([jI zm, jI ze]) (rfl)) <| oS (show AV.bool ((zm == (0 : Int)) && ((ze == (0 : Int)) && true)) = jB true from aggT4 (agg2 (by omega))))
            (oS (@rfl _ (jB true))) (by kernel_rfl)
    · have o3 := oA (oS (bF c4)) <| oA (oLf ([jI xm, jI xe]) (0) (jI xm) (rfl)) <| oA (oS (show AV.bool (decide (xm ≥ 0)) = jB true from bT (by omega))) <| oA (oS (show AV.bool (oc != 0) = jB false from neF ((zx ‹¬ xm < 0›).2.2))) <| oA (oLw ([jI om, jI oe]) (rfl)) <| oA (oLw ([jI xm, jI xe]) (rfl)) <| oS (show AV.bool (!((om == xm) && ((oe == xe) && true))) = jB false from aggNF (agg2 ⟨(zx ‹¬ xm < 0›).1, (zx ‹¬ xm < 0›).2.1⟩))
      let q3 : List Orc := [rG [hhI 1 xm, hhB 2 false, hhI 9 xm, hhB 10 true, hhB 13 false, hhV 15 (jA [jI om, jI oe]), hhV 16 (jA [jI xm, jI xe]), hhB 17 false]]
      by_cases c8 : zc = 0
      · exact meets_run (fn := Try.f11) 8 (q1 ++ (q2 ++ (q3 ++ [rG [hhB 3 true, hhB 6 true, hhB 10 true, hhV 13 (jA [jI zm, jI ze]), hhV 14 (jA [jI zm, jI ze]), hhB 15 true]]))) [{}] Try.func11 (by kernel_rfl) Try.call11
          (oA o1 <| oA o2 <| oA o3 <| oA (oS (eqT c8)) <| oA (oS (show AV.bool ((0 : Int) == 0) = jB true from boolE (by decide))) <| oA (oS (show AV.bool ((0 : Int) == 0) = jB true from boolE (by decide))) <| oA (oLw ([jI zm, jI ze]) (rfl)) <| oA (oLw ([jI zm, jI ze]) (rfl)) <| oS (show AV.bool ((zm == zm) && ((ze == ze) && true)) = jB true from aggT4 rfl))
          (oS (@rfl _ (jB true))) (by kernel_rfl)
      · by_cases c9 : zc = 12
        · exact meets_run (fn := Try.f11) 8 (q1 ++ (q2 ++ (q3 ++ [rG [hhB 3 false, hhB 19 true, hhV 21 (jA [jI zm, jI ze]), hhB 23 true]]))) [{}] Try.func11 (by kernel_rfl) Try.call11
            (oA o1 <| oA o2 <| oA o3 <| oA (oS (eqF c8)) <| oA (oS (eqT c9)) <| oA (oLw ([jI zm, jI ze]) (rfl)) <| oS (show AV.bool ((zm == (0 : Int)) && ((ze == (0 : Int)) && true)) = jB true from aggT4 (agg2 (by omega))))
            (oS (@rfl _ (jB true))) (by kernel_rfl)
        · exact meets_run (fn := Try.f11) 8 (q1 ++ (q2 ++ (q3 ++ [rG [hhB 3 false, hhB 19 false, hhB 28 true, hhV 30 (jA [jI zm, jI ze]), hhB 32 true]]))) [{}] Try.func11 (by kernel_rfl) Try.call11
            (oA o1 <| oA o2 <| oA o3 <| oA (oS (eqF c8)) <| oA (oS (eqF c9)) <| oA (oS (show AV.bool (zc == 10) = jB true from eqT (by omega))) <| oA (oLw ([jI zm, jI ze]) (rfl)) <| oS (show AV.bool ((zm == (0 : Int)) && ((ze == (0 : Int)) && true)) = jB true from aggT4 (agg2 (by omega))))
            (oS (@rfl _ (jB true))) (by kernel_rfl)
  · have o2 := oA (oS (eqF c2)) <| oA (oLw ([jI xm, jI xe]) (rfl)) <| oA (oLw ([jI ym, jI ye]) (rfl)) <| oA (oS (show AV.bool ((xm == ym) && ((xe == ye) && true)) = jB false from aggF4 (agg2n (by rintro ⟨rfl, rfl⟩; have := wx; rw [wy] at this; simp only [Prod.mk.injEq] at this; exact ‹¬ tx = ty› this.1.symm)))) <| oA (oS (show AV.bool (!(false == false)) = jB false from rfl)) <| oLf ([jI xm, jI xe]) (0) (jI xm) (rfl)
    let q2 : List Orc := [rG [hhB 1 false, hhB 4 false, hhB 8 false, hhV 11 (jA [jI xm, jI xe]), hhV 12 (jA [jI xm, jI xe]), hhB 13 false, hhB 18 false, hhV 19 (jA [jI xm, jI xe]), hhV 20 (jA [jI ym, jI ye]), hhB 21 false, hhB 22 false]]
    by_cases c4 : xm < 0
    · have o3 := oA (oS (bT c4)) <| oA (oS (show AV.bool (oc != 12) = jB false from neF ((nx ‹xm < 0›).2.2))) <| oA (oLf ([jI xm, jI xe]) (0) (jI xm) (rfl)) <| oS (show AV.bool (decide (xm ≥ 0)) = jB false from bF (by omega))
      let q3 : List Orc := [rG [hhI 1 xm, hhB 2 true, hhB 5 false, hhI 9 xm, hhB 10 false]]
      by_cases c7 : zc = 0
      · exact meets_run (fn := Try.f11) 8 (q1 ++ (q2 ++ (q3 ++ [rG [hhB 3 true, hhB 6 true, hhB 10 true, hhV 13 (jA [jI zm, jI ze]), hhV 14 (jA [jI zm, jI ze]), hhB 15 true]]))) [{}] Try.func11 (by kernel_rfl) Try.call11
          (oA o1 <| oA o2 <| oA o3 <| oA (oS (eqT c7)) <| oA (oS (show AV.bool ((0 : Int) == 0) = jB true from boolE (by decide))) <| oA (oS (show AV.bool ((0 : Int) == 0) = jB true from boolE (by decide))) <| oA (oLw ([jI zm, jI ze]) (rfl)) <| oA (oLw ([jI zm, jI ze]) (rfl)) <| oS (show AV.bool ((zm == zm) && ((ze == ze) && true)) = jB true from aggT4 rfl))
          (oS (@rfl _ (jB true))) (by kernel_rfl)
      · by_cases c8 : zc = 12
        · exact meets_run (fn := Try.f11) 8 (q1 ++ (q2 ++ (q3 ++ [rG [hhB 3 false, hhB 19 true, hhV 21 (jA [jI zm, jI ze]), hhB 23 true]]))) [{}] Try.func11 (by kernel_rfl) Try.call11
            (oA o1 <| oA o2 <| oA o3 <| oA (oS (eqF c7)) <| oA (oS (eqT c8)) <| oA (oLw ([jI zm, jI ze]) (rfl)) <| oS (show AV.bool ((zm == (0 : Int)) && ((ze == (0 : Int)) && true)) = jB true from aggT4 (agg2 (by omega))))
            (oS (@rfl _ (jB true))) (by kernel_rfl)
        · exact meets_run (fn := Try.f11) 8 (q1 ++ (q2 ++ (q3 ++ [rG [hhB 3 false, hhB 19 false, hhB 28 true, hhV 30 (jA [jI zm, jI ze]), hhB 32 true]]))) [{}] Try.func11 (by kernel_rfl) Try.call11
            (oA o1 <| oA o2 <| oA o3 <| oA (oS (eqF c7)) <| oA (oS (eqF c8)) <| oA (oS (show AV.bool (zc == 10) = jB true from eqT (by omega))) <| oA (oLw ([jI zm, jI ze]) (rfl)) <| oS (show AV.bool ((zm == (0 : Int)) && ((ze == (0 : Int)) && true)) = jB true from aggT4 (agg2 (by omega))))
            (oS (@rfl _ (jB true))) (by kernel_rfl)
    · have o3 := oA (oS (bF c4)) <| oA (oLf ([jI xm, jI xe]) (0) (jI xm) (rfl)) <| oA (oS (show AV.bool (decide (xm ≥ 0)) = jB true from bT (by omega))) <| oA (oS (show AV.bool (oc != 0) = jB false from neF ((zx ‹¬ xm < 0›).2.2))) <| oA (oLw ([jI om, jI oe]) (rfl)) <| oA (oLw ([jI xm, jI xe]) (rfl)) <| oS (show AV.bool (!((om == xm) && ((oe == xe) && true))) = jB false from aggNF (agg2 ⟨(zx ‹¬ xm < 0›).1, (zx ‹¬ xm < 0›).2.1⟩))
      let q3 : List Orc := [rG [hhI 1 xm, hhB 2 false, hhI 9 xm, hhB 10 true, hhB 13 false, hhV 15 (jA [jI om, jI oe]), hhV 16 (jA [jI xm, jI xe]), hhB 17 false]]
      by_cases c8 : zc = 0
      · exact meets_run (fn := Try.f11) 8 (q1 ++ (q2 ++ (q3 ++ [rG [hhB 3 true, hhB 6 true, hhB 10 true, hhV 13 (jA [jI zm, jI ze]), hhV 14 (jA [jI zm, jI ze]), hhB 15 true]]))) [{}] Try.func11 (by kernel_rfl) Try.call11
          (oA o1 <| oA o2 <| oA o3 <| oA (oS (eqT c8)) <| oA (oS (show AV.bool ((0 : Int) == 0) = jB true from boolE (by decide))) <| oA (oS (show AV.bool ((0 : Int) == 0) = jB true from boolE (by decide))) <| oA (oLw ([jI zm, jI ze]) (rfl)) <| oA (oLw ([jI zm, jI ze]) (rfl)) <| oS (show AV.bool ((zm == zm) && ((ze == ze) && true)) = jB true from aggT4 rfl))
          (oS (@rfl _ (jB true))) (by kernel_rfl)
      · by_cases c9 : zc = 12
        · exact meets_run (fn := Try.f11) 8 (q1 ++ (q2 ++ (q3 ++ [rG [hhB 3 false, hhB 19 true, hhV 21 (jA [jI zm, jI ze]), hhB 23 true]]))) [{}] Try.func11 (by kernel_rfl) Try.call11
            (oA o1 <| oA o2 <| oA o3 <| oA (oS (eqF c8)) <| oA (oS (eqT c9)) <| oA (oLw ([jI zm, jI ze]) (rfl)) <| oS (show AV.bool ((zm == (0 : Int)) && ((ze == (0 : Int)) && true)) = jB true from aggT4 (agg2 (by omega))))
            (oS (@rfl _ (jB true))) (by kernel_rfl)
        · exact meets_run (fn := Try.f11) 8 (q1 ++ (q2 ++ (q3 ++ [rG [hhB 3 false, hhB 19 false, hhB 28 true, hhV 30 (jA [jI zm, jI ze]), hhB 32 true]]))) [{}] Try.func11 (by kernel_rfl) Try.call11
            (oA o1 <| oA o2 <| oA o3 <| oA (oS (eqF c8)) <| oA (oS (eqF c9)) <| oA (oS (show AV.bool (zc == 10) = jB true from eqT (by omega))) <| oA (oLw ([jI zm, jI ze]) (rfl)) <| oS (show AV.bool ((zm == (0 : Int)) && ((ze == (0 : Int)) && true)) = jB true from aggT4 (agg2 (by omega))))
            (oS (@rfl _ (jB true))) (by kernel_rfl)

end Go.Proofs.Ytabgphldbgdbpaa
