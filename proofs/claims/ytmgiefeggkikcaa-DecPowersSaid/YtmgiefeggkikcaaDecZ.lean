import Derived.Test.YtmgiefeggkikcaaDecU
import Derived.Test.YtmgiefeggkikcaaDecW
set_option linter.unusedVariables false
set_option linter.unusedSimpArgs false
set_option maxRecDepth 20000
namespace Go.Proofs.Ytmgiefeggkikcaa
open Go Sx Dc

/-- Which of n things a raw number speaks of. -/
def pickR (c n : Int) : Int := if c < 0 then (-(c + 1)).tmod n else c.tmod n
theorem pickR_range {c n : Int} (hn : 0 < n) : 0 ≤ pickR c n ∧ pickR c n < n := by
  unfold pickR
  split
  · exact ⟨Int.tmod_nonneg _ (by omega), Int.tmod_lt_of_pos _ hn⟩
  · exact ⟨Int.tmod_nonneg _ (by omega), Int.tmod_lt_of_pos _ hn⟩

theorem pick_meets (c n : Int) (hc : -9223372036854775808 ≤ c ∧ c < 9223372036854775808) (hn : 0 < n) : Meets Try.prog 19 [jI c, jI n] [] (jI (pickR c n)) [] := by
  let q1 : List Orc := [rG []]
  by_cases c1 : c < 0
  · exact meets_run (fn := Try.f19) 0 (q1 ++ [rG [hhB 1 true], rG [hhI 1 (c + 1), hhI 2 (-(c + 1))], rG []]) [{}] Try.func19 (by kernel_rfl) Try.call19
      (oA (oS (bT c1)) <| oA (oWs (c + 1) (by omega)) <| oA (oW (0 - (c + 1)) (-(c + 1)) (by omega)) <| oS (show (n : Int) ≠ 0 from by omega))
      (oS (show jI ((-(c + 1)).tmod n) = jI (pickR c n) from by simp [pickR, *])) (by kernel_rfl)
  · exact meets_run (fn := Try.f19) 0 (q1 ++ [rG [hhB 1 false], rG []]) [{}] Try.func19 (by kernel_rfl) Try.call19
      (oA (oS (bF c1)) <| oS (show (n : Int) ≠ 0 from by omega))
      (oS (show jI (c.tmod n) = jI (pickR c n) from by simp [pickR, *])) (by kernel_rfl)

theorem reright_e {m e : Int} {b : Bool} (h : b = rightB m e) : AV.bool b = AV.bool (rightB m e) := by rw [h]

theorem reright_meets (m e : Int) : Meets Try.prog 50 [jA [jI m, jI e]] [] (jB (rightB m e)) [] := by
  let q1 : List Orc := [rG [hhN 0 0]]
  by_cases c1 : m < (-999999999999999)
  · exact meets_run (fn := Try.f50) 1 (q1 ++ [rG [hhI 1 m, hhB 2 true], rG []]) [{}] Try.func50 (by kernel_rfl) Try.call50
      (oA (oLf ([jI m, jI e]) (0) (jI m) (rfl)) <| oS (bT c1))
      (oS (show jB false = jB (rightB m e) from boolE (by rw [Bool.eq_iff_iff]; simp [rightB]; omega))) (by kernel_rfl)
  · have o1 := oA (oLf ([jI m, jI e]) (0) (jI m) (rfl)) <| oA (oS (bF c1)) <| oLf ([jI m, jI e]) (0) (jI m) (rfl)
    by_cases c2 : m > 999999999999999
    · exact meets_run (fn := Try.f50) 1 (q1 ++ [rG [hhI 1 m, hhB 2 false, hhI 5 m, hhB 6 true], rG []]) [{}] Try.func50 (by kernel_rfl) Try.call50
        (oA o1 <| oS (bT c2))
        (oS (show jB false = jB (rightB m e) from boolE (by rw [Bool.eq_iff_iff]; simp [rightB]; omega))) (by kernel_rfl)
    · have o2 := oA (oS (bF c2)) <| oLf ([jI m, jI e]) (1) (jI e) (rfl)
      by_cases c3 : e < (-9)
      · exact meets_run (fn := Try.f50) 1 (q1 ++ [rG [hhI 1 m, hhB 2 false, hhI 5 m, hhB 6 false, hhI 10 e, hhB 11 true], rG []]) [{}] Try.func50 (by kernel_rfl) Try.call50
          (oA o1 <| oA o2 <| oS (bT c3))
          (oS (show jB false = jB (rightB m e) from boolE (by rw [Bool.eq_iff_iff]; simp [rightB]; omega))) (by kernel_rfl)
      · have o3 := oA (oS (bF c3)) <| oLf ([jI m, jI e]) (1) (jI e) (rfl)
        by_cases c4 : e > 9
        · exact meets_run (fn := Try.f50) 1 (q1 ++ [rG [hhI 1 m, hhB 2 false, hhI 5 m, hhB 6 false, hhI 10 e, hhB 11 false, hhI 15 e, hhB 16 true], rG []]) [{}] Try.func50 (by kernel_rfl) Try.call50
            (oA o1 <| oA o2 <| oA o3 <| oS (bT c4))
            (oS (show jB false = jB (rightB m e) from boolE (by rw [Bool.eq_iff_iff]; simp [rightB]; omega))) (by kernel_rfl)
        · have o4 := oA (oS (bF c4)) <| oLf ([jI m, jI e]) (0) (jI m) (rfl)
          let q2 : List Orc := [rG [hhI 1 m, hhB 2 false, hhI 5 m, hhB 6 false, hhI 10 e, hhB 11 false, hhI 15 e, hhB 16 false]]
          by_cases c5 : m = 0
          · exact meets_run (fn := Try.f50) 1 (q1 ++ (q2 ++ [rG [hhI 1 m, hhB 2 true], rG [hhI 1 e]])) [{}] Try.func50 (by kernel_rfl) Try.call50
              (oA o1 <| oA o2 <| oA o3 <| oA o4 <| oA (oS (eqT c5)) <| oLf ([jI m, jI e]) (1) (jI e) (rfl))
              (oS (show jB (e == 0) = jB (rightB m e) from boolE (by rw [Bool.eq_iff_iff]; simp [rightB]; omega))) (by kernel_rfl)
          · have o5 := oA (oS (eqF c5)) <| oA (oLf ([jI m, jI e]) (0) (jI m) (rfl)) <| oS (show (10 : Int) ≠ 0 from by decide)
            let q3 : List Orc := [rG [hhI 1 m, hhB 2 false]]
            by_cases c6 : (m.tmod 10) = 0
            · exact meets_run (fn := Try.f50) 1 (q1 ++ (q2 ++ (q3 ++ [rG [hhI 1 m, hhB 3 false, hhI 6 e]]))) [{}] Try.func50 (by kernel_rfl) Try.call50
                (oA o1 <| oA o2 <| oA o3 <| oA o4 <| oA o5 <| oA (oS (neF c6)) <| oLf ([jI m, jI e]) (1) (jI e) (rfl))
                (oS (show jB (e == 9) = jB (rightB m e) from boolE (by rw [Bool.eq_iff_iff]; simp [rightB]; omega))) (by kernel_rfl)
            · exact meets_run (fn := Try.f50) 1 (q1 ++ (q2 ++ (q3 ++ [rG [hhI 1 m, hhB 3 true]]))) [{}] Try.func50 (by kernel_rfl) Try.call50
                (oA o1 <| oA o2 <| oA o3 <| oA o4 <| oA o5 <| oS (neT c6))
                (oS (show jB true = jB (rightB m e) from boolE (by rw [Bool.eq_iff_iff]; simp [rightB]; omega))) (by kernel_rfl)

def trimL (m e : Int) : Int × Int := if m = 0 then (m, e) else trimD (9 - e).toNat m e
theorem trimL_step {m e : Int} (h0 : m ≠ 0) (h1 : m.tmod 10 = 0) (h2 : e < 9) : trimL m e = trimL (m.tdiv 10) (e + 1) := by
  have := tmod_split h1
  unfold trimL
  rw [if_neg h0, if_neg (by omega), show (9 - e).toNat = (9 - (e + 1)).toNat + 1 by omega, trimD, if_pos h1]
theorem trimL_last {m e : Int} (h : ¬ (m ≠ 0 ∧ m.tmod 10 = 0 ∧ e < 9)) : trimL m e = (m, e) := by
  unfold trimL
  split
  · rfl
  · by_cases h9 : e < 9
    · rw [show (9 - e).toNat = (9 - (e + 1)).toNat + 1 by omega, trimD, if_neg fun k => h ⟨by assumption, k, h9⟩]
    · rw [show (9 - e).toNat = 0 by omega]; rfl
def rawM (m : Int) : Int := pickR m 1999999999999999 - 999999999999999
def rawE (e : Int) : Int := pickR e 19 - 9
theorem rawM_range (m : Int) : -999999999999999 ≤ rawM m ∧ rawM m ≤ 999999999999999 := by have := pickR_range (c := m) (n := 1999999999999999) (by omega); unfold rawM; omega
theorem rawE_range (m : Int) : -9 ≤ rawE m ∧ rawE m ≤ 9 := by have := pickR_range (c := m) (n := 19) (by omega); unfold rawE; omega
def decOfR (m e : Int) : Int × Int := if rightB m e = true then (m, e) else trimmedS (rawM m) (rawE e)
theorem decOfR_right (m e : Int) : rightB (decOfR m e).1 (decOfR m e).2 = true := by
  unfold decOfR
  split
  · assumption
  · exact trimmedS_right (rawM_range m).1 (rawM_range m).2 (rawE_range e).1 (rawE_range e).2
theorem trimD_ne : ∀ (n : Nat) (m e : Int), m ≠ 0 → (trimD n m e).1 ≠ 0
  | 0, m, e, h => h
  | n + 1, m, e, h => by
    rw [trimD]
    split
    · rename_i hc
      have := tmod_split hc
      exact trimD_ne n _ _ (by omega)
    · exact h
theorem decOf_zero {m e : Int} (c1 : ¬ rightB m e = true) (c2 : (trimL (rawM m) (rawE e)).1 = 0) : AV.agg [AV.int .i64 (trimL (rawM m) (rawE e)).1, AV.int .i64 0] = AV.agg [AV.int .i64 (decOfR m e).1, AV.int .i64 (decOfR m e).2] := by
  have : rawM m = 0 := by
    rcases Int.lt_trichotomy (rawM m) 0 with g | g | g
    · have := trimD_ne (9 - rawE e).toNat (rawM m) (rawE e) (by omega)
      unfold trimL at c2; rw [if_neg (by omega)] at c2; exact absurd c2 this
    · exact g
    · have := trimD_ne (9 - rawE e).toNat (rawM m) (rawE e) (by omega)
      unfold trimL at c2; rw [if_neg (by omega)] at c2; exact absurd c2 this
  rw [c2]
  simp [decOfR, c1, trimmedS, this]
theorem decOf_more {m e : Int} (c1 : ¬ rightB m e = true) (c2 : ¬ (trimL (rawM m) (rawE e)).1 = 0) : AV.agg [AV.int .i64 (trimL (rawM m) (rawE e)).1, AV.int .i64 (trimL (rawM m) (rawE e)).2] = AV.agg [AV.int .i64 (decOfR m e).1, AV.int .i64 (decOfR m e).2] := by
  have : rawM m ≠ 0 := fun h => c2 (by simp [trimL, h])
  simp [decOfR, c1, trimmedS, trimL, this]

def decOf_inv (am ae m e : Int) : AState :=
  ⟨[none, sP 0 0, sP 1 0, sI m, sI e, none, none, none, none, none, none, none, none, none, none, none, none, none, none, none, none, none, none, none, none, none, none, none, none, none, none, none, none, none, none, none], [some (jC [jI am, jI ae] 23), some (jC [jI 0, jI 0] 23)]⟩

theorem decOf_round (am ae m e : Int) (hm : -999999999999999 ≤ m ∧ m ≤ 999999999999999) (he : -9 ≤ e ∧ e ≤ 9) (h0 : m ≠ 0) (h1 : m.tmod 10 = 0) (h2 : e < 9) : Tri Try.prog (loopN (bodyOf Try.f18) 0) (decOf_inv am ae m e) .normal (decOf_inv am ae (m.tdiv 10) (e + 1)) := by
  exact tri_weak [rG [hhB 1 true, hhB 5 true, hhB 9 true], rG [hhI 1 (m.tdiv 10)], rG [hhI 1 (e + 1)]]
    (oA (oS (neT h0)) <| oA (oS (show (10 : Int) ≠ 0 from by decide)) <| oA (oS (eqT h1)) <| oA (oS (bT h2)) <| oA (oS (show (10 : Int) ≠ 0 from by decide)) <| oA (oS (show AV.int .i64 (IntKind.i64.wrap (m.tdiv 10)) = jI (m.tdiv 10) from tdivI (by omega))) <| oWs (e + 1) (by omega))
    (oA (oR [jP 0 0, jP 1 0, jI (m.tdiv 10), jI (e + 1)]) <| oQ [jC [jI am, jI ae] 23, jC [jI 0, jI 0] 23]) (by kernel_rfl)

theorem decOf_last (am ae m e : Int) (hm : -999999999999999 ≤ m ∧ m ≤ 999999999999999) (he : -9 ≤ e ∧ e ≤ 9) (h : ¬ (m ≠ 0 ∧ m.tmod 10 = 0 ∧ e < 9)) : Tri Try.prog (loopN (bodyOf Try.f18) 0) (decOf_inv am ae m e) (.exit 0) (decOf_inv am ae m e) := by
  by_cases c1 : m = 0
  · exact tri_weak [rG [hhB 1 false]]
      (oS (neF c1))
      (oA (oR [jP 0 0, jP 1 0, jI m, jI e]) <| oQ [jC [jI am, jI ae] 23, jC [jI 0, jI 0] 23]) (by kernel_rfl)
  · have o1 := oA (oS (neT c1)) <| oS (show (10 : Int) ≠ 0 from by decide)
    by_cases c2 : (m.tmod 10) = 0
    · by_cases c3 : e < 9
      · exact absurd ⟨‹_›, ‹_›, ‹_›⟩ h
      · exact tri_weak [rG [hhB 1 true, hhB 5 true, hhB 9 false]]
          (oA o1 <| oA (oS (eqT c2)) <| oS (bF c3))
          (oA (oR [jP 0 0, jP 1 0, jI m, jI e]) <| oQ [jC [jI am, jI ae] 23, jC [jI 0, jI 0] 23]) (by kernel_rfl)
    · exact tri_weak [rG [hhB 1 true, hhB 5 false]]
        (oA o1 <| oS (eqF c2))
        (oA (oR [jP 0 0, jP 1 0, jI m, jI e]) <| oQ [jC [jI am, jI ae] 23, jC [jI 0, jI 0] 23]) (by kernel_rfl)

theorem decOf_loop (am ae : Int) (m0 e0 : Int) (hm : -999999999999999 ≤ m0 ∧ m0 ≤ 999999999999999) (he : -9 ≤ e0 ∧ e0 ≤ 9) : Tri Try.prog (.loop (loopN (bodyOf Try.f18) 0)) (decOf_inv am ae m0 e0) (.exit 0) (decOf_inv am ae (trimL m0 e0).1 (trimL m0 e0).2) := by
  refine tri_loop (ι := {p : Int × Int // (-999999999999999 ≤ p.1 ∧ p.1 ≤ 999999999999999) ∧ (-9 ≤ p.2 ∧ p.2 ≤ 9) ∧ trimL p.1 p.2 = trimL m0 e0}) (fun i => decOf_inv am ae i.1.1 i.1.2) (fun i => (9 - i.1.2).toNat) (ne_normal_exit 0) ?_ ⟨(m0, e0), hm, he, rfl⟩
  rintro ⟨⟨m, e⟩, h1, h2, h3⟩
  simp only at h1 h2 h3
  by_cases hc : m ≠ 0 ∧ m.tmod 10 = 0 ∧ e < 9
  · have := tmod_split hc.2.1
    exact .inl ⟨⟨(m.tdiv 10, e + 1), by simp only; omega, by simp only; omega, by rw [← h3]; exact (trimL_step hc.1 hc.2.1 hc.2.2).symm⟩, by simp only; omega, decOf_round am ae m e h1 h2 hc.1 hc.2.1 hc.2.2⟩
  · have hx : decOf_inv am ae m e = decOf_inv am ae (trimL m0 e0).1 (trimL m0 e0).2 := by rw [← h3, trimL_last hc]
    exact .inr (Eq.subst (motive := fun s => Tri _ _ (decOf_inv am ae m e) (.exit 0) s) hx (decOf_last am ae m e h1 h2 hc))

theorem decOf_meets (am ae : Int) (ham : -9223372036854775808 ≤ am ∧ am < 9223372036854775808) (hae : -9223372036854775808 ≤ ae ∧ ae < 9223372036854775808) : Meets Try.prog 18 [jA [jI am, jI ae]] [] (jA [jI ((decOfR am ae).1), jI ((decOfR am ae).2)]) [] := by
  have hp := pickR_range (c := am) (n := 1999999999999999) (by omega)
  have hq := pickR_range (c := ae) (n := 19) (by omega)
  have o1 := oA (oLw ([jI am, jI ae]) (rfl)) <| oC (reright_meets am ae) rfl
  let q1 : List Orc := [rG [hhN 0 0, hhN 1 1]]
  by_cases c1 : rightB am ae = true
  · exact meets_run (fn := Try.f18) 2 (q1 ++ [rG [hhV 0 (jA [jI am, jI ae]), hhMB 1 (reright_meets am ae) true], rG [hhV 0 (jA [jI am, jI ae]), (1, {obj := some [jC [jI am, jI ae] 23]})]]) [{val := some (jA [jI am, jI ae])}] Try.func18 (by kernel_rfl) Try.call18
      (oA o1 <| oA (oS (boolT c1)) <| oA (oLw ([jI am, jI ae]) (rfl)) <| oSw ([jI am, jI ae]) ([jI 0, jI 0]) 23 (rfl) (rfl))
      (oA (oLw ([jI am, jI ae]) (rfl)) <| oA (oS (show jA [jI am, jI ae] = jA [jI ((decOfR am ae).1), jI ((decOfR am ae).2)] from by simp [decOfR, *])) <| oV (D := (fun n => decide (0 ≤ n))) (jA [jI ((decOfR am ae).1), jI ((decOfR am ae).2)]) rfl) (by kernel_rfl)
  · have o2 := oA (oS (boolF c1)) <| oA (oLf ([jI am, jI ae]) (0) (jI am) (rfl)) <| oA (oC (pick_meets am 1999999999999999 (by omega) (by omega)) rfl) <| oA (oWs ((pickR am 1999999999999999) - 999999999999999) (by omega)) <| oA (oLf ([jI am, jI ae]) (1) (jI ae) (rfl)) <| oA (oC (pick_meets ae 19 (by omega) (by omega)) rfl) <| oA (oWs ((pickR ae 19) - 9) (by omega)) <| oA (oR [jP 0 0, jP 1 0, jI ((pickR am 1999999999999999) - 999999999999999), jI ((pickR ae 19) - 9)]) <| oA (oQ [jC [jI am, jI ae] 23, jC [jI 0, jI 0] 23]) <| oS (show Tri Try.prog (.loop (loopN (bodyOf Try.f18) 0)) (⟨[none, sP 0 0, sP 1 0, sI (rawM am), sI (rawE ae), none, none, none, none, none, none, none, none, none, none, none, none, none, none, none, none, none, none, none, none, none, none, none, none, none, none, none, none, none, none, none], [some (jC [jI am, jI ae] 23), some (jC [jI 0, jI 0] 23)]⟩) (.exit 0) (⟨[none, sP 0 0, sP 1 0, sI ((trimL (rawM am) (rawE ae)).1), sI ((trimL (rawM am) (rawE ae)).2), none, none, none, none, none, none, none, none, none, none, none, none, none, none, none, none, none, none, none, none, none, none, none, none, none, none, none, none, none, none, none], [some (jC [jI am, jI ae] 23), some (jC [jI 0, jI 0] 23)]⟩) from decOf_loop am ae (rawM am) (rawE ae) (rawM_range am) (rawE_range ae))
    let q2 : List Orc := [rG [hhV 0 (jA [jI am, jI ae]), hhMB 1 (reright_meets am ae) false], rG [hhI 1 am, hhM 2 (pick_meets am 1999999999999999 (by omega) (by omega)), hhI 3 ((pickR am 1999999999999999) - 999999999999999)], rG [hhI 1 ae, hhM 2 (pick_meets ae 19 (by omega) (by omega)), hhI 3 ((pickR ae 19) - 9)], .loop (⟨[none, sP 0 0, sP 1 0, sI (rawM am), sI (rawE ae), none, none, none, none, none, none, none, none, none, none, none, none, none, none, none, none, none, none, none, none, none, none, none, none, none, none, none, none, none, none, none], [some (jC [jI am, jI ae] 23), some (jC [jI 0, jI 0] 23)]⟩) (.exit 0) (⟨[none, sP 0 0, sP 1 0, sI ((trimL (rawM am) (rawE ae)).1), sI ((trimL (rawM am) (rawE ae)).2), none, none, none, none, none, none, none, none, none, none, none, none, none, none, none, none, none, none, none, none, none, none, none, none, none, none, none, none, none, none, none], [some (jC [jI am, jI ae] 23), some (jC [jI 0, jI 0] 23)]⟩)]
    by_cases c2 : (trimL (rawM am) (rawE ae)).1 = 0
    · exact meets_run (fn := Try.f18) 2 (q1 ++ (q2 ++ [rG [hhB 1 true], rG [], rG [hhV 2 (jA [jI ((trimL (rawM am) (rawE ae)).1), jI 0]), (3, {obj := some [jC [jI ((trimL (rawM am) (rawE ae)).1), jI 0] 23]})]])) [{val := some (jA [jI ((trimL (rawM am) (rawE ae)).1), jI 0])}] Try.func18 (by kernel_rfl) Try.call18
        (oA o1 <| oA o2 <| oA (oS (eqT c2)) <| oA (oS (show ([jI ((trimL (rawM am) (rawE ae)).1)] : List AV).length = 1 from rfl)) <| oA (oS (show 0 + 1 ≤ ([jI 0, jI 0] : List AV).length from Nat.le_of_ble_eq_true (by kernel_rfl))) <| oA (oS (show ([jI 0] : List AV).length = 1 from rfl)) <| oA (oS (show 1 + 1 ≤ (List.take 0 [jI 0, jI 0] ++ [jI ((trimL (rawM am) (rawE ae)).1)] ++ List.drop 1 [jI 0, jI 0] : List AV).length from Nat.le_of_ble_eq_true (by kernel_rfl))) <| oA (oS (show AV.agg (List.take 1 (List.take 0 [jI 0, jI 0] ++ [jI ((trimL (rawM am) (rawE ae)).1)] ++ List.drop 1 [jI 0, jI 0]) ++ [jI 0] ++ List.drop 2 (List.take 0 [jI 0, jI 0] ++ [jI ((trimL (rawM am) (rawE ae)).1)] ++ List.drop 1 [jI 0, jI 0])) = jA [jI ((trimL (rawM am) (rawE ae)).1), jI 0] from by kernel_rfl)) <| oSw ([jI ((trimL (rawM am) (rawE ae)).1), jI 0]) ([jI 0, jI 0]) 23 (rfl) (rfl))
        (oA (oLw ([jI ((trimL (rawM am) (rawE ae)).1), jI 0]) (rfl)) <| oA (oS (show jA [jI ((trimL (rawM am) (rawE ae)).1), jI 0] = jA [jI ((decOfR am ae).1), jI ((decOfR am ae).2)] from decOf_zero c1 c2)) <| oV (D := (fun n => decide (0 ≤ n))) (jA [jI ((decOfR am ae).1), jI ((decOfR am ae).2)]) rfl) (by kernel_rfl)
    · exact meets_run (fn := Try.f18) 2 (q1 ++ (q2 ++ [rG [hhB 1 false], rG [hhV 2 (jA [jI ((trimL (rawM am) (rawE ae)).1), jI ((trimL (rawM am) (rawE ae)).2)]), (3, {obj := some [jC [jI ((trimL (rawM am) (rawE ae)).1), jI ((trimL (rawM am) (rawE ae)).2)] 23]})]])) [{val := some (jA [jI ((trimL (rawM am) (rawE ae)).1), jI ((trimL (rawM am) (rawE ae)).2)])}] Try.func18 (by kernel_rfl) Try.call18
        (oA o1 <| oA o2 <| oA (oS (eqF c2)) <| oA (oS (show ([jI ((trimL (rawM am) (rawE ae)).1)] : List AV).length = 1 from rfl)) <| oA (oS (show 0 + 1 ≤ ([jI 0, jI 0] : List AV).length from Nat.le_of_ble_eq_true (by kernel_rfl))) <| oA (oS (show ([jI ((trimL (rawM am) (rawE ae)).2)] : List AV).length = 1 from rfl)) <| oA (oS (show 1 + 1 ≤ (List.take 0 [jI 0, jI 0] ++ [jI ((trimL (rawM am) (rawE ae)).1)] ++ List.drop 1 [jI 0, jI 0] : List AV).length from Nat.le_of_ble_eq_true (by kernel_rfl))) <| oA (oS (show AV.agg (List.take 1 (List.take 0 [jI 0, jI 0] ++ [jI ((trimL (rawM am) (rawE ae)).1)] ++ List.drop 1 [jI 0, jI 0]) ++ [jI ((trimL (rawM am) (rawE ae)).2)] ++ List.drop 2 (List.take 0 [jI 0, jI 0] ++ [jI ((trimL (rawM am) (rawE ae)).1)] ++ List.drop 1 [jI 0, jI 0])) = jA [jI ((trimL (rawM am) (rawE ae)).1), jI ((trimL (rawM am) (rawE ae)).2)] from by kernel_rfl)) <| oSw ([jI ((trimL (rawM am) (rawE ae)).1), jI ((trimL (rawM am) (rawE ae)).2)]) ([jI 0, jI 0]) 23 (rfl) (rfl))
        (oA (oLw ([jI ((trimL (rawM am) (rawE ae)).1), jI ((trimL (rawM am) (rawE ae)).2)]) (rfl)) <| oA (oS (show jA [jI ((trimL (rawM am) (rawE ae)).1), jI ((trimL (rawM am) (rawE ae)).2)] = jA [jI ((decOfR am ae).1), jI ((decOfR am ae).2)] from decOf_more c1 c2)) <| oV (D := (fun n => decide (0 ≤ n))) (jA [jI ((decOfR am ae).1), jI ((decOfR am ae).2)]) rfl) (by kernel_rfl)

end Go.Proofs.Ytmgiefeggkikcaa
