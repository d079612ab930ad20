import Derived.Test.YtmgiefeggkikcaaSx2
import Derived.Test.YtmgiefeggkikcaaRows
import Derived.Test.YtmgiefeggkikcaaDecA
set_option linter.unusedVariables false
set_option linter.unusedSimpArgs false
set_option maxRecDepth 20000
namespace Go.Proofs.Ytmgiefeggkikcaa
open Go Sx Dc

theorem size_meets (n : Int) (h : -9223372036854775808 < n ∧ n < 9223372036854775808) : Meets Try.prog 52 [jI n] [] (jI ((n.natAbs : Nat) : Int)) [] := by
  let q1 : List Orc := [rG []]
  by_cases c1 : n < 0
  · exact meets_run (fn := Try.f52) 0 (q1 ++ [rG [hhB 1 true], rG [hhI 1 (-n)]]) [{}] Try.func52 (by kernel_rfl) Try.call52
      (oA (oS (bT c1)) <| oW (0 - n) (-n) (by omega))
      (oS (show jI (-n) = jI ((n.natAbs : Nat) : Int) from intE (by omega))) (by kernel_rfl)
  · exact meets_run (fn := Try.f52) 0 (q1 ++ [rG [hhB 1 false], rG []]) [{}] Try.func52 (by kernel_rfl) Try.call52
      (oS (bF c1))
      (oS (show jI n = jI ((n.natAbs : Nat) : Int) from intE (by omega))) (by kernel_rfl)

def rightB (m e : Int) : Bool := decide (-999999999999999 ≤ m ∧ m ≤ 999999999999999 ∧ -9 ≤ e ∧ e ≤ 9 ∧ (m = 0 → e = 0) ∧ (m ≠ 0 → e = 9 ∨ m.tmod 10 ≠ 0))

theorem right_meets (m e : Int) : Meets Try.prog 30 [jA [jI m, jI e]] [] (jB (rightB m e)) [] := by
  let q1 : List Orc := [rG [hhN 0 0]]
  by_cases c1 : m < (-999999999999999)
  · exact meets_run (fn := Try.f30) 1 (q1 ++ [rG [hhI 1 m, hhB 2 true], rG []]) [{}] Try.func30 (by kernel_rfl) Try.call30
      (oA (oLf ([jI m, jI e]) (0) (jI m) (rfl)) <| oS (bT c1))
      (oS (show jB false = jB (rightB m e) from boolE (by rw [Bool.eq_iff_iff]; simp [rightB]; omega))) (by kernel_rfl)
  · have o1 := oA (oLf ([jI m, jI e]) (0) (jI m) (rfl)) <| oA (oS (bF c1)) <| oLf ([jI m, jI e]) (0) (jI m) (rfl)
    by_cases c2 : m > 999999999999999
    · exact meets_run (fn := Try.f30) 1 (q1 ++ [rG [hhI 1 m, hhB 2 false, hhI 5 m, hhB 6 true], rG []]) [{}] Try.func30 (by kernel_rfl) Try.call30
        (oA o1 <| oS (bT c2))
        (oS (show jB false = jB (rightB m e) from boolE (by rw [Bool.eq_iff_iff]; simp [rightB]; omega))) (by kernel_rfl)
    · have o2 := oA (oS (bF c2)) <| oLf ([jI m, jI e]) (1) (jI e) (rfl)
      by_cases c3 : e < (-9)
      · exact meets_run (fn := Try.f30) 1 (q1 ++ [rG [hhI 1 m, hhB 2 false, hhI 5 m, hhB 6 false, hhI 10 e, hhB 11 true], rG []]) [{}] Try.func30 (by kernel_rfl) Try.call30
          (oA o1 <| oA o2 <| oS (bT c3))
          (oS (show jB false = jB (rightB m e) from boolE (by rw [Bool.eq_iff_iff]; simp [rightB]; omega))) (by kernel_rfl)
      · have o3 := oA (oS (bF c3)) <| oLf ([jI m, jI e]) (1) (jI e) (rfl)
        by_cases c4 : e > 9
        · exact meets_run (fn := Try.f30) 1 (q1 ++ [rG [hhI 1 m, hhB 2 false, hhI 5 m, hhB 6 false, hhI 10 e, hhB 11 false, hhI 15 e, hhB 16 true], rG []]) [{}] Try.func30 (by kernel_rfl) Try.call30
            (oA o1 <| oA o2 <| oA o3 <| oS (bT c4))
            (oS (show jB false = jB (rightB m e) from boolE (by rw [Bool.eq_iff_iff]; simp [rightB]; omega))) (by kernel_rfl)
        · have o4 := oA (oS (bF c4)) <| oLf ([jI m, jI e]) (0) (jI m) (rfl)
          let q2 : List Orc := [rG [hhI 1 m, hhB 2 false, hhI 5 m, hhB 6 false, hhI 10 e, hhB 11 false, hhI 15 e, hhB 16 false]]
          by_cases c5 : m = 0
          · exact meets_run (fn := Try.f30) 1 (q1 ++ (q2 ++ [rG [hhI 1 m, hhB 2 true], rG [hhI 1 e]])) [{}] Try.func30 (by kernel_rfl) Try.call30
              (oA o1 <| oA o2 <| oA o3 <| oA o4 <| oA (oS (eqT c5)) <| oLf ([jI m, jI e]) (1) (jI e) (rfl))
              (oS (show jB (e == 0) = jB (rightB m e) from boolE (by rw [Bool.eq_iff_iff]; simp [rightB]; omega))) (by kernel_rfl)
          · have o5 := oA (oS (eqF c5)) <| oLf ([jI m, jI e]) (1) (jI e) (rfl)
            let q3 : List Orc := [rG [hhI 1 m, hhB 2 false]]
            by_cases c6 : e = 9
            · exact meets_run (fn := Try.f30) 1 (q1 ++ (q2 ++ (q3 ++ [rG [hhI 1 e, hhB 2 true]]))) [{}] Try.func30 (by kernel_rfl) Try.call30
                (oA o1 <| oA o2 <| oA o3 <| oA o4 <| oA o5 <| oS (eqT c6))
                (oS (show jB true = jB (rightB m e) from boolE (by rw [Bool.eq_iff_iff]; simp [rightB]; omega))) (by kernel_rfl)
            · exact meets_run (fn := Try.f30) 1 (q1 ++ (q2 ++ (q3 ++ [rG [hhI 1 e, hhB 2 false, hhI 5 m]]))) [{}] Try.func30 (by kernel_rfl) Try.call30
                (oA o1 <| oA o2 <| oA o3 <| oA o4 <| oA o5 <| oA (oS (eqF c6)) <| oA (oLf ([jI m, jI e]) (0) (jI m) (rfl)) <| oS (show (10 : Int) ≠ 0 from by decide))
                (oS (show jB ((m.tmod 10) != 0) = jB (rightB m e) from boolE (by rw [Bool.eq_iff_iff]; simp [rightB]; omega))) (by kernel_rfl)

def trimD : Nat → Int → Int → Int × Int
  | 0, m, e => (m, e)
  | n + 1, m, e => if m.tmod 10 = 0 then trimD n (m.tdiv 10) (e + 1) else (m, e)
/-- The one form of m times ten to e. -/
def trimmedS (m e : Int) : Int × Int := if m = 0 then (0, 0) else trimD (9 - e).toNat m e

def trimmed_inv (m e : Int) : AState :=
  ⟨[sI m, sI e, none, none, sP 0 0, none, none, none, none, none, none, none, none, none, none, none, none, none, none, none, none, none], [some (jC [jI 0, jI 0] 23)]⟩

theorem trimmed_round (m e : Int) (h : -9223372036854775808 < m ∧ m < 9223372036854775808) (he : -100 ≤ e ∧ e ≤ 9) (h1 : e < 9) (h2 : m.tmod 10 = 0) : Tri Try.prog (loopN (bodyOf Try.f41) 0) (trimmed_inv m e) .normal (trimmed_inv (m.tdiv 10) (e + 1)) := by
  exact tri_weak [rG [hhB 1 true, hhB 5 true], rG [hhI 1 (m.tdiv 10)], rG [hhI 1 (e + 1)]]
    (oA (oS (bT h1)) <| oA (oS (show (10 : Int) ≠ 0 from by decide)) <| oA (oS (eqT h2)) <| oA (oS (show (10 : Int) ≠ 0 from by decide)) <| oA (oS (show AV.int .i64 (IntKind.i64.wrap (m.tdiv 10)) = jI (m.tdiv 10) from tdivI (by omega))) <| oWs (e + 1) (by omega))
    (oA (oR [jI (m.tdiv 10), jI (e + 1), jP 0 0]) <| oQ [jC [jI 0, jI 0] 23]) (by kernel_rfl)

theorem trimmed_last (m e : Int) (h : -9223372036854775808 < m ∧ m < 9223372036854775808) (he : -100 ≤ e ∧ e ≤ 9) (h1 : ¬ (e < 9 ∧ m.tmod 10 = 0)) : Tri Try.prog (loopN (bodyOf Try.f41) 0) (trimmed_inv m e) (.exit 0) (trimmed_inv m e) := by
  by_cases c1 : e < 9
  · have o1 := oA (oS (bT c1)) <| oS (show (10 : Int) ≠ 0 from by decide)
    by_cases c2 : (m.tmod 10) = 0
    · exact absurd ⟨‹_›, ‹_›⟩ h1
    · exact tri_weak [rG [hhB 1 true, hhB 5 false]]
        (oA o1 <| oS (eqF c2))
        (oA (oR [jI m, jI e, jP 0 0]) <| oQ [jC [jI 0, jI 0] 23]) (by kernel_rfl)
  · exact tri_weak [rG [hhB 1 false]]
      (oS (bF c1))
      (oA (oR [jI m, jI e, jP 0 0]) <| oQ [jC [jI 0, jI 0] 23]) (by kernel_rfl)

theorem trimmed_loop : ∀ (n : Nat) (m e : Int), n = (9 - e).toNat → (-9223372036854775808 < m ∧ m < 9223372036854775808) → (-100 ≤ e ∧ e ≤ 9) →
    Tri Try.prog (.loop (loopN (bodyOf Try.f41) 0)) (trimmed_inv m e) (.exit 0) (trimmed_inv (trimD n m e).1 (trimD n m e).2) := by
  intro n m e hn hm he
  refine tri_loop (ι := {p : Int × Int // (-9223372036854775808 < p.1 ∧ p.1 < 9223372036854775808) ∧ (-100 ≤ p.2 ∧ p.2 ≤ 9) ∧ trimD (9 - p.2).toNat p.1 p.2 = trimD n m e}) (fun i => trimmed_inv i.1.1 i.1.2) (fun i => (9 - i.1.2).toNat) (ne_normal_exit 0) ?_ ⟨(m, e), hm, he, by rw [hn]⟩
  rintro ⟨⟨m', e'⟩, h1, h2, h3⟩
  simp only at h1 h2 h3
  by_cases hc : e' < 9 ∧ m'.tmod 10 = 0
  · have e1 : (9 - e').toNat = (9 - (e' + 1)).toNat + 1 := by omega
    rw [e1, trimD, if_pos hc.2] at h3
    have hb := tdiv_range (y := 10) h1
    exact .inl ⟨⟨(m'.tdiv 10, e' + 1), hb, by simp only; omega, h3⟩, by simp only; omega, trimmed_round m' e' h1 h2 hc.1 hc.2⟩
  · have e1 : trimD (9 - e').toNat m' e' = (m', e') := by
      by_cases h9 : e' = 9
      · rw [h9]; rfl
      · have : (9 - e').toNat = (9 - (e' + 1)).toNat + 1 := by omega
        rw [this, trimD, if_neg (by omega)]
    rw [e1] at h3
    have hx : trimmed_inv m' e' = trimmed_inv (trimD n m e).1 (trimD n m e).2 := by rw [← h3]
    exact .inr (Eq.subst (motive := fun s => Tri _ _ (trimmed_inv m' e') (.exit 0) s) hx (trimmed_last m' e' h1 h2 hc))

theorem trimmed_meets (m e : Int) (h : -9223372036854775808 < m ∧ m < 9223372036854775808) (he : -100 ≤ e ∧ e ≤ 9) : Meets Try.prog 41 [jI m, jI e] [] (jA [jI ((trimmedS m e).1), jI ((trimmedS m e).2)]) [] := by
  let q1 : List Orc := [rG [hhN 0 0]]
  by_cases c1 : m = 0
  · exact meets_run (fn := Try.f41) 1 (q1 ++ [rG [hhB 1 true], rG [(1, {obj := some [jC [jI 0, jI 0] 23]})]]) [{val := some (jA [jI 0, jI 0])}] Try.func41 (by kernel_rfl) Try.call41
      (oA (oS (eqT c1)) <| oSw ([jI 0, jI 0]) ([jI 0, jI 0]) 23 (rfl) (rfl))
      (oA (oLw ([jI 0, jI 0]) (rfl)) <| oA (oS (show jA [jI 0, jI 0] = jA [jI ((trimmedS m e).1), jI ((trimmedS m e).2)] from by simp [trimmedS, *])) <| oV (D := (fun n => decide (0 ≤ n))) (jA [jI ((trimmedS m e).1), jI ((trimmedS m e).2)]) rfl) (by kernel_rfl)
  · exact meets_run (fn := Try.f41) 1 (q1 ++ [rG [hhB 1 false], .loop (⟨[sI m, sI e, none, none, sP 0 0, none, none, none, none, none, none, none, none, none, none, none, none, none, none, none, none, none], [some (jC [jI 0, jI 0] 23)]⟩) (.exit 0) (⟨[sI ((trimD (9 - e).toNat m e).1), sI ((trimD (9 - e).toNat m e).2), none, none, sP 0 0, none, none, none, none, none, none, none, none, none, none, none, none, none, none, none, none, none], [some (jC [jI 0, jI 0] 23)]⟩), rG [hhV 2 (jA [jI ((trimD (9 - e).toNat m e).1), jI ((trimD (9 - e).toNat m e).2)]), (3, {obj := some [jC [jI ((trimD (9 - e).toNat m e).1), jI ((trimD (9 - e).toNat m e).2)] 23]})]]) [{val := some (jA [jI ((trimD (9 - e).toNat m e).1), jI ((trimD (9 - e).toNat m e).2)])}] Try.func41 (by kernel_rfl) Try.call41
      (oA (oS (eqF c1)) <| oA (oR [jI m, jI e, jP 0 0]) <| oA (oQ [jC [jI 0, jI 0] 23]) <| oA (oS (show Tri Try.prog (.loop (loopN (bodyOf Try.f41) 0)) (⟨[sI m, sI e, none, none, sP 0 0, none, none, none, none, none, none, none, none, none, none, none, none, none, none, none, none, none], [some (jC [jI 0, jI 0] 23)]⟩) (.exit 0) (⟨[sI ((trimD (9 - e).toNat m e).1), sI ((trimD (9 - e).toNat m e).2), none, none, sP 0 0, none, none, none, none, none, none, none, none, none, none, none, none, none, none, none, none, none], [some (jC [jI 0, jI 0] 23)]⟩) from trimmed_loop _ m e rfl h he)) <| oA (oS (show ([jI ((trimD (9 - e).toNat m e).1)] : List AV).length = 1 from rfl)) <| oA (oS (show 0 + 1 ≤ ([jI 0, jI 0] : List AV).length from Nat.le_of_ble_eq_true (by kernel_rfl))) <| oA (oS (show ([jI ((trimD (9 - e).toNat m e).2)] : List AV).length = 1 from rfl)) <| oA (oS (show 1 + 1 ≤ (List.take 0 [jI 0, jI 0] ++ [jI ((trimD (9 - e).toNat m e).1)] ++ List.drop 1 [jI 0, jI 0] : List AV).length from Nat.le_of_ble_eq_true (by kernel_rfl))) <| oA (oS (show AV.agg (List.take 1 (List.take 0 [jI 0, jI 0] ++ [jI ((trimD (9 - e).toNat m e).1)] ++ List.drop 1 [jI 0, jI 0]) ++ [jI ((trimD (9 - e).toNat m e).2)] ++ List.drop 2 (List.take 0 [jI 0, jI 0] ++ [jI ((trimD (9 - e).toNat m e).1)] ++ List.drop 1 [jI 0, jI 0])) = jA [jI ((trimD (9 - e).toNat m e).1), jI ((trimD (9 - e).toNat m e).2)] from by kernel_rfl)) <| oSw ([jI ((trimD (9 - e).toNat m e).1), jI ((trimD (9 - e).toNat m e).2)]) ([jI 0, jI 0]) 23 (rfl) (rfl))
      (oA (oLw ([jI ((trimD (9 - e).toNat m e).1), jI ((trimD (9 - e).toNat m e).2)]) (rfl)) <| oA (oS (show jA [jI ((trimD (9 - e).toNat m e).1), jI ((trimD (9 - e).toNat m e).2)] = jA [jI ((trimmedS m e).1), jI ((trimmedS m e).2)] from by simp [trimmedS, *])) <| oV (D := (fun n => decide (0 ≤ n))) (jA [jI ((trimmedS m e).1), jI ((trimmedS m e).2)]) rfl) (by kernel_rfl)

end Go.Proofs.Ytmgiefeggkikcaa
