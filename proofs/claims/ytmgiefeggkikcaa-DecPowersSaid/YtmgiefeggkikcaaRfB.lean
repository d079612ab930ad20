import Derived.Test.YtmgiefeggkikcaaRfA
import Derived.Test.YtmgiefeggkikcaaRows
set_option linter.unusedVariables false
set_option linter.unusedSimpArgs false
set_option maxRecDepth 20000
namespace Go.Proofs.Ytmgiefeggkikcaa.Rr
open Go Sx Rf

abbrev FL (x : Nat) : AObj := AObj.flat false (ints .i64 (dg x))
abbrev FT (x : Nat) : AObj := AObj.flat true (ints .i64 (dg x))

theorem dg_none {a k : Nat} (h : ¬ k < nd a) : (0 : Int) = ((a / 10 ^ k % 10 : Nat) : Int) := by
  rw [← dg_getD, dg, dN_out (by omega)]
theorem trim_zero {n m : Nat} (h : nd n ≤ m) : ((n / 10 ^ m % 10 : Nat) : Int) = 0 := by
  rw [← dg_getD, dg, dN_out h]
theorem trim_top {n m : Nat} (h : nd n = m + 1) : ¬ ((n / 10 ^ m % 10 : Nat) : Int) = 0 := by
  have h1 := le_of_lt_nd (n := n) (k := m) (by omega)
  have h2 := lt_nd n
  rw [h, Nat.pow_succ] at h2
  have hp : 0 < 10 ^ m := Nat.pow_pos (by decide)
  have h3 := Nat.div_pos h1 hp
  have h4 : n / 10 ^ m < 10 := by rw [Nat.div_lt_iff_lt_mul hp]; omega
  omega

theorem at_meets (a k : Nat) (hk : k < 1000000) (ha : nd a < 1000000) : Meets Try.prog 69 [AV.dsl 0 (nd a), jI ((k : Nat) : Int)] [FL a] (jI ((a / 10 ^ k % 10 : Nat) : Int)) [FL a] := by
  let q1 : List Orc := [rG []]
  by_cases c1 : ((k : Nat) : Int) < (((nd a) : Nat) : Int)
  · exact meets_run (fn := Try.f69) 0 (q1 ++ [rG [hhB 3 true], rG [hhV 2 (AV.dptr 0 k), hhI 3 ((dg a).getD k 0)]]) [{}] Try.func69 (by kernel_rfl) Try.call69
      (oA (oS (bT c1)) <| oA (oS (show 0 ≤ ((k : Nat) : Int) from by omega)) <| oA (oS (show ((k : Nat) : Int) < (((nd a) : Nat) : Int) from by omega)) <| oA (oS (show AV.dptr 0 (Int.toNat ((k : Nat) : Int) * 1) = AV.dptr 0 k from dptrE (by omega))) <| oS (show (ints .i64 (dg a) : List AV)[k]? = some (jI ((dg a).getD k 0)) from ints_get' (by rw [dg_length]; omega)))
      (oA (oS (show jI ((dg a).getD k 0) = jI ((a / 10 ^ k % 10 : Nat) : Int) from by first | exact intE (dg_getD) | exact intE (dg_none (by omega)))) <| oA (oS (show Fits (FL a) (FL a) from Fits.refl _)) <| oS (show AvoidO (fun n => decide (1 ≤ n)) (FL a) from AvoidO.flat (AvoidL.ints _ _ _))) (by kernel_rfl)
  · exact meets_run (fn := Try.f69) 0 (q1 ++ [rG [hhB 3 false], rG []]) [{}] Try.func69 (by kernel_rfl) Try.call69
      (oS (bF c1))
      (oA (oS (show jI 0 = jI ((a / 10 ^ k % 10 : Nat) : Int) from by first | exact intE (dg_getD) | exact intE (dg_none (by omega)))) <| oA (oS (show Fits (FL a) (FL a) from Fits.refl _)) <| oS (show AvoidO (fun n => decide (1 ≤ n)) (FL a) from AvoidO.flat (AvoidL.ints _ _ _))) (by kernel_rfl)

def rtrim_inv (i n m : Nat) : AState :=
  ⟨[some (AV.dsl 0 i), none, none, sI ((m : Nat) : Int), none, none, none, none, none, none, none, none, none, none, none, none, none, none, none, none, none], [some (AObj.flat false (ints .i64 (dN i n)))]⟩

theorem rtrim_round (i n m : Nat) (hi : i < 1000000) (h1 : nd n ≤ m) (h2 : m + 1 ≤ i) : Tri Try.prog (loopN (bodyOf Try.f35) 0) (rtrim_inv i n (m + 1)) .normal (rtrim_inv i n m) 1 := by
  exact tri_weak [rG [hhB 1 true, hhI 5 ((m : Nat) : Int), hhV 6 (AV.dptr 0 m), hhI 7 ((dN i n).getD m 0), hhB 8 true], rG [hhI 1 ((m : Nat) : Int)]]
    (oA (oS (show AV.bool (decide (((m + 1 : Nat) : Int) > 0)) = jB true from bT (by omega))) <| oA (oW (((m + 1 : Nat) : Int) - 1) ((m : Nat) : Int) (by omega)) <| oA (oS (show 0 ≤ ((m : Nat) : Int) from by omega)) <| oA (oS (show ((m : Nat) : Int) < ((i : Nat) : Int) from by omega)) <| oA (oS (show AV.dptr 0 (Int.toNat ((m : Nat) : Int) * 1) = AV.dptr 0 m from dptrE (by omega))) <| oA (oS (show (ints .i64 (dN i n) : List AV)[m]? = some (jI ((dN i n).getD m 0)) from ints_get' (by rw [dN_length]; omega))) <| oA (oS (show AV.bool (((dN i n).getD m 0) == 0) = jB true from eqT (by rw [dN_getD (by omega)]; exact trim_zero h1))) <| oW (((m + 1 : Nat) : Int) - 1) ((m : Nat) : Int) (by omega))
    (oA (oR [AV.dsl 0 i, jI ((m : Nat) : Int)]) <| oS (show sameF (AObj.flat false (ints .i64 (dN i n))) (AObj.flat false (ints .i64 (dN i n))) from sameF_ints (by simp))) (by kernel_rfl)

theorem rtrim_last0 (i n : Nat) (hi : i < 1000000) : Tri Try.prog (loopN (bodyOf Try.f35) 0) (rtrim_inv i n 0) (.exit 0) (rtrim_inv i n 0) 1 := by
  exact tri_weak [rG [hhB 1 false]]
    (oS (show AV.bool (decide ((0 : Int) > 0)) = jB false from boolE (by decide)))
    (oA (oR [AV.dsl 0 i, jI 0]) <| oS (show sameF (AObj.flat false (ints .i64 (dN i n))) (AObj.flat false (ints .i64 (dN i n))) from sameF_ints (by simp))) (by kernel_rfl)

theorem rtrim_last (i n m : Nat) (hi : i < 1000000) (h1 : nd n = m + 1) (h2 : m + 1 ≤ i) : Tri Try.prog (loopN (bodyOf Try.f35) 0) (rtrim_inv i n (m + 1)) (.exit 0) (rtrim_inv i n (m + 1)) 1 := by
  exact tri_weak [rG [hhB 1 true, hhI 5 ((m : Nat) : Int), hhV 6 (AV.dptr 0 m), hhI 7 ((dN i n).getD m 0), hhB 8 false]]
    (oA (oS (show AV.bool (decide (((m + 1 : Nat) : Int) > 0)) = jB true from bT (by omega))) <| oA (oW (((m + 1 : Nat) : Int) - 1) ((m : Nat) : Int) (by omega)) <| oA (oS (show 0 ≤ ((m : Nat) : Int) from by omega)) <| oA (oS (show ((m : Nat) : Int) < ((i : Nat) : Int) from by omega)) <| oA (oS (show AV.dptr 0 (Int.toNat ((m : Nat) : Int) * 1) = AV.dptr 0 m from dptrE (by omega))) <| oA (oS (show (ints .i64 (dN i n) : List AV)[m]? = some (jI ((dN i n).getD m 0)) from ints_get' (by rw [dN_length]; omega))) <| oS (show AV.bool (((dN i n).getD m 0) == 0) = jB false from eqF (by rw [dN_getD (by omega)]; exact trim_top h1)))
    (oA (oR [AV.dsl 0 i, jI ((m + 1 : Nat) : Int)]) <| oS (show sameF (AObj.flat false (ints .i64 (dN i n))) (AObj.flat false (ints .i64 (dN i n))) from sameF_ints (by simp))) (by kernel_rfl)

theorem rtrim_loop (i n : Nat) (hi : i < 1000000) (h : nd n ≤ i) : Tri Try.prog (.loop (loopN (bodyOf Try.f35) 0)) (rtrim_inv i n i) (.exit 0) (rtrim_inv i n (nd n)) 1 :=
  tri_loop (ι := {m : Nat // nd n ≤ m ∧ m ≤ i}) (fun m => rtrim_inv i n m.1) (fun m => m.1) (ne_normal_exit 0) (fun ⟨m, h1, h2⟩ => by
    by_cases e : m = nd n
    · refine .inr ?_
      simp only [e]
      cases hn : nd n with
      | zero => exact rtrim_last0 i n hi
      | succ k => exact rtrim_last i n k hi hn (by omega)
    · obtain ⟨k, rfl⟩ : ∃ k, m = k + 1 := ⟨m - 1, by omega⟩
      exact .inl ⟨⟨k, by omega, by omega⟩, Nat.lt_succ_self k, rtrim_round i n k hi (by omega) h2⟩) ⟨i, h, Nat.le_refl _⟩

theorem rtrim_meets (i n : Nat) (hi : i < 1000000) (h : nd n ≤ i) : Meets Try.prog 35 [AV.dsl 0 i] [AObj.flat false (ints .i64 (dN i n))] (AV.dsl 0 (nd n)) [AObj.flat false (ints .i64 (dN i n))] := by
  exact meets_run (fn := Try.f35) 0 [rG [], rG [], .loop (⟨[some (AV.dsl 0 i), none, none, sI ((i : Nat) : Int), none, none, none, none, none, none, none, none, none, none, none, none, none, none, none, none, none], [some (AObj.flat false (ints .i64 (dN i n)))]⟩) (.exit 0) (⟨[some (AV.dsl 0 i), none, none, sI (((nd n) : Nat) : Int), none, none, none, none, none, none, none, none, none, none, none, none, none, none, none, none, none], [some (AObj.flat false (ints .i64 (dN i n)))]⟩), rG [hhV 2 (AV.dsl 0 (nd n))]] [{}] Try.func35 (by kernel_rfl) Try.call35
    (oA (oR [AV.dsl 0 i, jI ((i : Nat) : Int)]) <| oA (oS (show sameF (AObj.flat false (ints .i64 (dN i n))) (AObj.flat false (ints .i64 (dN i n))) from sameF_ints (by simp))) <| oA (oS (show Tri Try.prog (.loop (loopN (bodyOf Try.f35) 0)) (⟨[some (AV.dsl 0 i), none, none, sI ((i : Nat) : Int), none, none, none, none, none, none, none, none, none, none, none, none, none, none, none, none, none], [some (AObj.flat false (ints .i64 (dN i n)))]⟩) (.exit 0) (⟨[some (AV.dsl 0 i), none, none, sI (((nd n) : Nat) : Int), none, none, none, none, none, none, none, none, none, none, none, none, none, none, none, none, none], [some (AObj.flat false (ints .i64 (dN i n)))]⟩) 1 from rtrim_loop i n hi h)) <| oA (oS (show 0 ≤ ((((nd n) : Nat) : Int) : Int) from by omega)) <| oA (oS (show (Int.toNat ((((nd n) : Nat) : Int)) : Nat) ≤ i from by omega)) <| oS (show AV.dsl 0 (Int.toNat ((((nd n) : Nat) : Int))) = AV.dsl 0 (nd n) from dslE (by omega)))
    (oA (oS (@rfl _ (AV.dsl 0 (nd n)))) <| oA (oS (show Fits (AObj.flat false (ints .i64 (dN i n))) (AObj.flat false (ints .i64 (dN i n))) from Fits.refl _)) <| oS (show AvoidO (fun n => decide (1 ≤ n)) (AObj.flat false (ints .i64 (dN i n))) from AvoidO.flat (AvoidL.ints _ _ _))) (by kernel_rfl)

end Go.Proofs.Ytmgiefeggkikcaa.Rr
