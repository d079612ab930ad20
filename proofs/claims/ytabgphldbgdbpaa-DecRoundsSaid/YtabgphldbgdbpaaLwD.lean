import Derived.Test.YtabgphldbgdbpaaDecAA
set_option linter.unusedVariables false
set_option linter.unusedSimpArgs false
set_option maxRecDepth 20000
namespace Go.Proofs.Ytabgphldbgdbpaa
open Go Sx Dc

set_option maxHeartbeats 4000000 in
theorem decRounds_meets (am ae n : Int) (ham : -9223372036854775808 ≤ am ∧ am < 9223372036854775808) (hae : -9223372036854775808 ≤ ae ∧ ae < 9223372036854775808) (hn : -9223372036854775808 ≤ n ∧ n < 9223372036854775808) : Meets Try.prog 9 [jA [jI am, jI ae], jI n] [] (jB true) [] := by
  obtain ⟨xm, xe, hx, kx⟩ : ∃ m e : Int, rightB m e = true ∧ Meets Try.prog 18 [AV.agg [AV.int .i64 am, AV.int .i64 ae]] [] (AV.agg [AV.int .i64 m, AV.int .i64 e]) [] := ⟨_, _, decOfR_right am ae, decOf_meets am ae (by omega) (by omega)⟩
  obtain ⟨p, hp, kp⟩ : ∃ p : Int, (0 ≤ p ∧ p < 19) ∧ Meets Try.prog 19 [jI n, jI 19] [] (jI p) [] := ⟨_, pickR_range (by omega), pick_meets n 19 (by omega) (by omega)⟩
  obtain ⟨k, ek⟩ : ∃ k : Int, p - 9 = k := ⟨_, rfl⟩
  obtain ⟨r, f, e1, hr, e2, hz, hc⟩ := round_law (k := k) hx (by omega)
  have k1 := lit3 (round_meets xm xe k (by omega) (48 + k).toNat (40 - k).toNat (by omega) (by omega)) e1
  have k2 := lit3 (round_meets xm xe (9 : Int) (by omega) (48 + (9 : Int)).toNat (40 - (9 : Int)).toNat (by omega) (by omega)) (round_nine hx)
  have k3 := lit3 (round_meets r f k (by omega) (48 + k).toNat (40 - k).toNat (by omega) (by omega)) e2
  obtain ⟨dm, de, dc, ed⟩ : ∃ m e c : Int, subR r f xm xe = (m, e, c) := ⟨_, _, _, rfl⟩
  have kd := lit3 (sub_meets r f xm xe) ed
  have hd := subR_small r f xm xe
  rw [ed] at hd hc
  simp only at hd hc
  obtain ⟨tm, te, tc, et⟩ : ∃ m e c : Int, addR ((dm.natAbs : Nat) : Int) de ((dm.natAbs : Nat) : Int) de = (m, e, c) := ⟨_, _, _, rfl⟩
  rw [et] at hc
  simp only at hc
  have o1 := oA (oC (examples_meet) rfl) <| oA (oS (show AV.bool (!true) = jB false from rfl)) <| oA (oLw ([jI am, jI ae]) (rfl)) <| oA (oC (kx) rfl) <| oA (oSw ([jI xm, jI xe]) ([jI 0, jI 0]) 23 (rfl) (rfl)) <| oA (oC (kp) rfl) <| oA (oW (p - 9) (k) (by omega)) <| oA (oLw ([jI xm, jI xe]) (rfl)) <| oA (oC (k1) rfl) <| oA (oSw ([jI r, jI f]) ([jI 0, jI 0]) 23 (rfl) (rfl)) <| oA (oLw ([jI xm, jI xe]) (rfl)) <| oA (oC (k2) rfl) <| oA (oSw ([jI xm, jI xe]) ([jI 0, jI 0]) 23 (rfl) (rfl)) <| oA (oS (show AV.bool ((0 : Int) != 0) = jB false from boolE (by decide))) <| oA (oLw ([jI xm, jI xe]) (rfl)) <| oA (oLw ([jI xm, jI xe]) (rfl)) <| oA (oS (show AV.bool (!((xm == xm) && ((xe == xe) && true))) = jB false from aggNF rfl)) <| oA (oS (show AV.bool ((0 : Int) != 0) = jB false from boolE (by decide))) <| oA (oLw ([jI r, jI f]) (rfl)) <| oA (oC (k3) rfl) <| oA (oSw ([jI r, jI f]) ([jI 0, jI 0]) 23 (rfl) (rfl)) <| oA (oLw ([jI r, jI f]) (rfl)) <| oA (oLw ([jI xm, jI xe]) (rfl)) <| oA (oC (kd) rfl) <| oA (oSw ([jI dm, jI de]) ([jI 0, jI 0]) 23 (rfl) (rfl)) <| oLf ([jI dm, jI de]) (0) (jI dm) (rfl)
  let q1 : List Orc := [rG [hhN 0 0], rG [hhM 0 (examples_meet)], rG [hhB 1 false], rG [hhV 0 (jA [jI am, jI ae]), hhM 1 (kx), hhN 2 1, (3, {obj := some [jC [jI xm, jI xe] 23]})], rG [hhM 1 (kp), hhI 2 k], rG [hhV 0 (jA [jI xm, jI xe]), hhM 2 (k1), hhN 6 2, (7, {obj := some [jC [jI r, jI f] 23]})], rG [hhV 0 (jA [jI xm, jI xe]), hhM 1 (k2), hhN 5 3, (6, {obj := some [jC [jI xm, jI xe] 23]})], rG [hhB 1 false, hhV 3 (jA [jI xm, jI xe]), hhV 4 (jA [jI xm, jI xe]), hhB 5 false], rG [hhB 1 false], rG [hhV 0 (jA [jI r, jI f]), hhM 2 (k3), hhN 6 4, (7, {obj := some [jC [jI r, jI f] 23]})], rG [hhV 0 (jA [jI r, jI f]), hhV 1 (jA [jI xm, jI xe]), hhM 2 (kd), hhN 6 5, (7, {obj := some [jC [jI dm, jI de] 23]})]]
  by_cases c2 : dm < 0
  · have o2 := oA (oS (bT c2)) <| oA (oLf ([jI dm, jI de]) (0) (jI dm) (rfl)) <| oA (oW (0 - dm) (-dm) (by omega)) <| oA (oSf ([jI (-dm)]) ([jI dm, jI de]) 0 1 23 ([jI (-dm), jI de]) rfl rfl rfl) <| oA (oLw ([jI (-dm), jI de]) (rfl)) <| oA (oLw ([jI (-dm), jI de]) (rfl)) <| oA (oC (show Meets Try.prog 22 [jA [jI (-dm), jI de], jA [jI (-dm), jI de]] [] (jT [jA [jI tm, jI te], jI tc]) [] from lit3 (add_meets (-dm) de (-dm) de) (by rw [show (-dm) = ((dm.natAbs : Nat) : Int) by omega]; exact et)) rfl) <| oA (oSw ([jI tm, jI te]) ([jI 0, jI 0]) 23 (rfl) (rfl)) <| oA (oW (0 - k) (-k) (by omega)) <| oA (oS (show ([jI 1] : List AV).length = 1 from rfl)) <| oA (oS (show 0 + 1 ≤ ([jI 0, jI 0] : List AV).length from Nat.le_of_ble_eq_true (by kernel_rfl))) <| oA (oS (show ([jI (-k)] : List AV).length = 1 from rfl)) <| oA (oS (show 1 + 1 ≤ (List.take 0 [jI 0, jI 0] ++ [jI 1] ++ List.drop 1 [jI 0, jI 0] : List AV).length from Nat.le_of_ble_eq_true (by kernel_rfl))) <| oA (oS (show AV.agg (List.take 1 (List.take 0 [jI 0, jI 0] ++ [jI 1] ++ List.drop 1 [jI 0, jI 0]) ++ [jI (-k)] ++ List.drop 2 (List.take 0 [jI 0, jI 0] ++ [jI 1] ++ List.drop 1 [jI 0, jI 0])) = jA [jI 1, jI (-k)] from by kernel_rfl)) <| oA (oSw ([jI 1, jI (-k)]) ([jI 0, jI 0]) 23 (rfl) (rfl)) <| oA (oS (show AV.bool ((0 : Int) == 0) = jB true from boolE (by decide))) <| oA (oLw ([jI r, jI f]) (rfl)) <| oA (oLw ([jI r, jI f]) (rfl)) <| oA (oS (show AV.bool ((r == r) && ((f == f) && true)) = jB true from aggT4 rfl)) <| oLf ([jI r, jI f]) (0) (jI r) (rfl)
    let q2 : List Orc := [rG [hhI 1 dm, hhB 2 true], rG [hhI 1 dm, hhI 2 (-dm), (4, {obj := some [jC [jI (-dm), jI de] 23]})], rG [hhV 0 (jA [jI (-dm), jI de]), hhV 1 (jA [jI (-dm), jI de]), hhK 2 ([jA [jI (-dm), jI de], jA [jI (-dm), jI de]]) (jT [jA [jI tm, jI te], jI tc]), hhN 6 6, (7, {obj := some [jC [jI tm, jI te] 23]})], rG [hhI 1 (-k), hhV 2 (jA [jI 1, jI (-k)]), hhN 3 7, (4, {obj := some [jC [jI 1, jI (-k)] 23]})]]
    by_cases c5 : r = 0
    · by_cases c6 : dc = 0
      · have o3 := oA (oS (eqT c5)) <| oS (neF c6)
        by_cases c7 : tc = 0
        · exact meets_run (fn := Try.f9) 8 (q1 ++ (q2 ++ [rG [hhB 3 true, hhV 6 (jA [jI r, jI f]), hhV 7 (jA [jI r, jI f]), hhB 8 true, hhI 12 r, hhB 13 true, hhB 24 false, hhB 27 false, hhV 30 (jA [jI tm, jI te]), hhV 31 (jA [jI 1, jI (-k)]), hhM 32 (cmp_meets tm te 1 (-k)), hhB 33 true]])) [{}] Try.func9 (by kernel_rfl) Try.call9
            (oA o1 <| oA o2 <| oA o3 <| oA (oS (neF c7)) <| oA (oLw ([jI tm, jI te]) (rfl)) <| oA (oLw ([jI 1, jI (-k)]) (rfl)) <| oA (oC (cmp_meets tm te 1 (-k)) rfl) <| oS (show AV.bool (decide ((cmpR tm te 1 (-k)) ≤ 0)) = jB true from bT (hc ‹dc = 0› ‹tc = 0›)))
            (oS (@rfl _ (jB true))) (by kernel_rfl)
        · exact meets_run (fn := Try.f9) 8 (q1 ++ (q2 ++ [rG [hhB 3 true, hhV 6 (jA [jI r, jI f]), hhV 7 (jA [jI r, jI f]), hhB 8 true, hhI 12 r, hhB 13 true, hhB 24 false, hhB 27 true]])) [{}] Try.func9 (by kernel_rfl) Try.call9
            (oA o1 <| oA o2 <| oA o3 <| oS (neT c7))
            (oS (@rfl _ (jB true))) (by kernel_rfl)
      · exact meets_run (fn := Try.f9) 8 (q1 ++ (q2 ++ [rG [hhB 3 true, hhV 6 (jA [jI r, jI f]), hhV 7 (jA [jI r, jI f]), hhB 8 true, hhI 12 r, hhB 13 true, hhB 24 true]])) [{}] Try.func9 (by kernel_rfl) Try.call9
          (oA o1 <| oA o2 <| oA (oS (eqT c5)) <| oS (neT c6))
          (oS (@rfl _ (jB true))) (by kernel_rfl)
    · have o3 := oA (oS (eqF c5)) <| oA (oLf ([jI r, jI f]) (1) (jI f) (rfl)) <| oA (oW (0 - k) (-k) (by omega)) <| oS (show AV.bool (decide (f ≥ (-k))) = jB true from bT (by omega))
      by_cases c7 : dc = 0
      · by_cases c8 : tc = 0
        · exact meets_run (fn := Try.f9) 8 (q1 ++ (q2 ++ [rG [hhB 3 true, hhV 6 (jA [jI r, jI f]), hhV 7 (jA [jI r, jI f]), hhB 8 true, hhI 12 r, hhB 13 false, hhI 16 f, hhI 18 (-k), hhB 19 true, hhB 24 false, hhB 27 false, hhV 30 (jA [jI tm, jI te]), hhV 31 (jA [jI 1, jI (-k)]), hhM 32 (cmp_meets tm te 1 (-k)), hhB 33 true]])) [{}] Try.func9 (by kernel_rfl) Try.call9
            (oA o1 <| oA o2 <| oA o3 <| oA (oS (neF c7)) <| oA (oS (neF c8)) <| oA (oLw ([jI tm, jI te]) (rfl)) <| oA (oLw ([jI 1, jI (-k)]) (rfl)) <| oA (oC (cmp_meets tm te 1 (-k)) rfl) <| oS (show AV.bool (decide ((cmpR tm te 1 (-k)) ≤ 0)) = jB true from bT (hc ‹dc = 0› ‹tc = 0›)))
            (oS (@rfl _ (jB true))) (by kernel_rfl)
        · exact meets_run (fn := Try.f9) 8 (q1 ++ (q2 ++ [rG [hhB 3 true, hhV 6 (jA [jI r, jI f]), hhV 7 (jA [jI r, jI f]), hhB 8 true, hhI 12 r, hhB 13 false, hhI 16 f, hhI 18 (-k), hhB 19 true, hhB 24 false, hhB 27 true]])) [{}] Try.func9 (by kernel_rfl) Try.call9
            (oA o1 <| oA o2 <| oA o3 <| oA (oS (neF c7)) <| oS (neT c8))
            (oS (@rfl _ (jB true))) (by kernel_rfl)
      · exact meets_run (fn := Try.f9) 8 (q1 ++ (q2 ++ [rG [hhB 3 true, hhV 6 (jA [jI r, jI f]), hhV 7 (jA [jI r, jI f]), hhB 8 true, hhI 12 r, hhB 13 false, hhI 16 f, hhI 18 (-k), hhB 19 true, hhB 24 true]])) [{}] Try.func9 (by kernel_rfl) Try.call9
          (oA o1 <| oA o2 <| oA o3 <| oS (neT c7))
          (oS (@rfl _ (jB true))) (by kernel_rfl)
  · have o2 := oA (oS (bF c2)) <| oA (oLw ([jI dm, jI de]) (rfl)) <| oA (oLw ([jI dm, jI de]) (rfl)) <| oA (oC (show Meets Try.prog 22 [jA [jI dm, jI de], jA [jI dm, jI de]] [] (jT [jA [jI tm, jI te], jI tc]) [] from lit3 (add_meets dm de dm de) (by rw [show dm = ((dm.natAbs : Nat) : Int) by omega]; exact et)) rfl) <| oA (oSw ([jI tm, jI te]) ([jI 0, jI 0]) 23 (rfl) (rfl)) <| oA (oW (0 - k) (-k) (by omega)) <| oA (oS (show ([jI 1] : List AV).length = 1 from rfl)) <| oA (oS (show 0 + 1 ≤ ([jI 0, jI 0] : List AV).length from Nat.le_of_ble_eq_true (by kernel_rfl))) <| oA (oS (show ([jI (-k)] : List AV).length = 1 from rfl)) <| oA (oS (show 1 + 1 ≤ (List.take 0 [jI 0, jI 0] ++ [jI 1] ++ List.drop 1 [jI 0, jI 0] : List AV).length from Nat.le_of_ble_eq_true (by kernel_rfl))) <| oA (oS (show AV.agg (List.take 1 (List.take 0 [jI 0, jI 0] ++ [jI 1] ++ List.drop 1 [jI 0, jI 0]) ++ [jI (-k)] ++ List.drop 2 (List.take 0 [jI 0, jI 0] ++ [jI 1] ++ List.drop 1 [jI 0, jI 0])) = jA [jI 1, jI (-k)] from by kernel_rfl)) <| oA (oSw ([jI 1, jI (-k)]) ([jI 0, jI 0]) 23 (rfl) (rfl)) <| oA (oS (show AV.bool ((0 : Int) == 0) = jB true from boolE (by decide))) <| oA (oLw ([jI r, jI f]) (rfl)) <| oA (oLw ([jI r, jI f]) (rfl)) <| oA (oS (show AV.bool ((r == r) && ((f == f) && true)) = jB true from aggT4 rfl)) <| oLf ([jI r, jI f]) (0) (jI r) (rfl)
    let q2 : List Orc := [rG [hhI 1 dm, hhB 2 false], rG [hhV 0 (jA [jI dm, jI de]), hhV 1 (jA [jI dm, jI de]), hhK 2 ([jA [jI dm, jI de], jA [jI dm, jI de]]) (jT [jA [jI tm, jI te], jI tc]), hhN 6 6, (7, {obj := some [jC [jI tm, jI te] 23]})], rG [hhI 1 (-k), hhV 2 (jA [jI 1, jI (-k)]), hhN 3 7, (4, {obj := some [jC [jI 1, jI (-k)] 23]})]]
    by_cases c5 : r = 0
    · by_cases c6 : dc = 0
      · have o3 := oA (oS (eqT c5)) <| oS (neF c6)
        by_cases c7 : tc = 0
        · exact meets_run (fn := Try.f9) 8 (q1 ++ (q2 ++ [rG [hhB 3 true, hhV 6 (jA [jI r, jI f]), hhV 7 (jA [jI r, jI f]), hhB 8 true, hhI 12 r, hhB 13 true, hhB 24 false, hhB 27 false, hhV 30 (jA [jI tm, jI te]), hhV 31 (jA [jI 1, jI (-k)]), hhM 32 (cmp_meets tm te 1 (-k)), hhB 33 true]])) [{}] Try.func9 (by kernel_rfl) Try.call9
            (oA o1 <| oA o2 <| oA o3 <| oA (oS (neF c7)) <| oA (oLw ([jI tm, jI te]) (rfl)) <| oA (oLw ([jI 1, jI (-k)]) (rfl)) <| oA (oC (cmp_meets tm te 1 (-k)) rfl) <| oS (show AV.bool (decide ((cmpR tm te 1 (-k)) ≤ 0)) = jB true from bT (hc ‹dc = 0› ‹tc = 0›)))
            (oS (@rfl _ (jB true))) (by kernel_rfl)
        · exact meets_run (fn := Try.f9) 8 (q1 ++ (q2 ++ [rG [hhB 3 true, hhV 6 (jA [jI r, jI f]), hhV 7 (jA [jI r, jI f]), hhB 8 true, hhI 12 r, hhB 13 true, hhB 24 false, hhB 27 true]])) [{}] Try.func9 (by kernel_rfl) Try.call9
            (oA o1 <| oA o2 <| oA o3 <| oS (neT c7))
            (oS (@rfl _ (jB true))) (by kernel_rfl)
      · exact meets_run (fn := Try.f9) 8 (q1 ++ (q2 ++ [rG [hhB 3 true, hhV 6 (jA [jI r, jI f]), hhV 7 (jA [jI r, jI f]), hhB 8 true, hhI 12 r, hhB 13 true, hhB 24 true]])) [{}] Try.func9 (by kernel_rfl) Try.call9
          (oA o1 <| oA o2 <| oA (oS (eqT c5)) <| oS (neT c6))
          (oS (@rfl _ (jB true))) (by kernel_rfl)
    · have o3 := oA (oS (eqF c5)) <| oA (oLf ([jI r, jI f]) (1) (jI f) (rfl)) <| oA (oW (0 - k) (-k) (by omega)) <| oS (show AV.bool (decide (f ≥ (-k))) = jB true from bT (by omega))
      by_cases c7 : dc = 0
      · by_cases c8 : tc = 0
        · exact meets_run (fn := Try.f9) 8 (q1 ++ (q2 ++ [rG [hhB 3 true, hhV 6 (jA [jI r, jI f]), hhV 7 (jA [jI r, jI f]), hhB 8 true, hhI 12 r, hhB 13 false, hhI 16 f, hhI 18 (-k), hhB 19 true, hhB 24 false, hhB 27 false, hhV 30 (jA [jI tm, jI te]), hhV 31 (jA [jI 1, jI (-k)]), hhM 32 (cmp_meets tm te 1 (-k)), hhB 33 true]])) [{}] Try.func9 (by kernel_rfl) Try.call9
            (oA o1 <| oA o2 <| oA o3 <| oA (oS (neF c7)) <| oA (oS (neF c8)) <| oA (oLw ([jI tm, jI te]) (rfl)) <| oA (oLw ([jI 1, jI (-k)]) (rfl)) <| oA (oC (cmp_meets tm te 1 (-k)) rfl) <| oS (show AV.bool (decide ((cmpR tm te 1 (-k)) ≤ 0)) = jB true from bT (hc ‹dc = 0› ‹tc = 0›)))
            (oS (@rfl _ (jB true))) (by kernel_rfl)
        · exact meets_run (fn := Try.f9) 8 (q1 ++ (q2 ++ [rG [hhB 3 true, hhV 6 (jA [jI r, jI f]), hhV 7 (jA [jI r, jI f]), hhB 8 true, hhI 12 r, hhB 13 false, hhI 16 f, hhI 18 (-k), hhB 19 true, hhB 24 false, hhB 27 true]])) [{}] Try.func9 (by kernel_rfl) Try.call9
            (oA o1 <| oA o2 <| oA o3 <| oA (oS (neF c7)) <| oS (neT c8))
            (oS (@rfl _ (jB true))) (by kernel_rfl)
      · exact meets_run (fn := Try.f9) 8 (q1 ++ (q2 ++ [rG [hhB 3 true, hhV 6 (jA [jI r, jI f]), hhV 7 (jA [jI r, jI f]), hhB 8 true, hhI 12 r, hhB 13 false, hhI 16 f, hhI 18 (-k), hhB 19 true, hhB 24 true]])) [{}] Try.func9 (by kernel_rfl) Try.call9
          (oA o1 <| oA o2 <| oA o3 <| oS (neT c7))
          (oS (@rfl _ (jB true))) (by kernel_rfl)

end Go.Proofs.Ytabgphldbgdbpaa
