import Derived.Test.YtmgiefeggkikcaaRfB
set_option linter.unusedVariables false
set_option linter.unusedSimpArgs false
set_option maxRecDepth 20000
namespace Go.Proofs.Ytmgiefeggkikcaa.Rr
open Go Sx Rf

theorem digs_abs {q : Int} {N k : Nat} (h : q.natAbs = N / 10 ^ k) : (q.tdiv 10).natAbs = N / 10 ^ (k + 1) := by
  rw [Int.natAbs_tdiv, h, div_pow_succ]; rfl
theorem dig_pos {q : Int} {N k : Nat} (h : q.natAbs = N / 10 ^ k) (c : ¬ q.tmod 10 < 0) : q.tmod 10 = ((N / 10 ^ k % 10 : Nat) : Int) := by
  have h1 : (q.tmod 10).natAbs = N / 10 ^ k % 10 := by rw [Int.natAbs_tmod, h]; rfl
  omega
theorem dig_neg {q : Int} {N k : Nat} (h : q.natAbs = N / 10 ^ k) (c : q.tmod 10 < 0) : -(q.tmod 10) = ((N / 10 ^ k % 10 : Nat) : Int) := by
  have h1 : (q.tmod 10).natAbs = N / 10 ^ k % 10 := by rw [Int.natAbs_tmod, h]; rfl
  omega
theorem tdiv10 {q : Int} (h : -9223372036854775808 ≤ q ∧ q < 9223372036854775808) : -9223372036854775808 ≤ q.tdiv 10 ∧ q.tdiv 10 < 9223372036854775808 := by
  have h1 : (q.tdiv 10).natAbs = q.natAbs / 10 := Int.natAbs_tdiv q 10
  omega
theorem tdivT {q : Int} (h : -9223372036854775808 ≤ q ∧ q < 9223372036854775808) : AV.int .i64 (IntKind.i64.wrap (q.tdiv 10)) = AV.int .i64 (q.tdiv 10) := by
  have := tdiv10 h
  rw [i64_in this.1 this.2]
theorem tmod_range (q : Int) : -10 < q.tmod 10 ∧ q.tmod 10 < 10 := by
  have h1 : (q.tmod 10).natAbs = q.natAbs % 10 := Int.natAbs_tmod q 10
  omega

def digits_inv0 (q : Int) : AState :=
  ⟨[sI q, none, none, some (AV.nilslice), none, none, none, none, none, none, none, none, none, none, none, none, none, none, none, none], [none, none, none]⟩

def digits_inv (q : Int) (N k : Nat) : AState :=
  ⟨[sI q, none, none, some (AV.vec 0 k), none, none, none, none, none, none, none, none, none, none, none, none, none, none, none, none], [some (AObj.vec (ints .i64 (dN k N)) 3 1), none, none]⟩

theorem digits_round0 (q : Int) (N : Nat) (hq : q.natAbs = N / 10 ^ 0) (hb : -9223372036854775808 ≤ q ∧ q < 9223372036854775808) (hn : q ≠ 0)  : Tri Try.prog (loopN (bodyOf Try.f42) 0) (digits_inv0 q) .normal (digits_inv (q.tdiv 10) N 1) := by
  have htm := tmod_range q
  have o1 := oA (oS (show AV.bool (q != 0) = jB true from neT hn)) <| oS (show (10 : Int) ≠ 0 from by decide)
  let q1 : List Orc := [rG [hhB 1 true], rG []]
  by_cases c2 : (q.tmod 10) < 0
  · exact tri_ren [1] (q1 ++ [rG [hhB 1 true], rG [hhI 1 (-(q.tmod 10))], rG [(2, {nm := [0], obj := some [jC [jI (-(q.tmod 10))] 3]}), (3, {nm := [1], obj := some [AObj.vec [jI (-(q.tmod 10))] 3 1]})], rG [hhI 1 (q.tdiv 10)]])
      (oA o1 <| oA (oS (bT c2)) <| oA (oW (0 - (q.tmod 10)) (-(q.tmod 10)) (by omega)) <| oA (oS (show ([jI (-(q.tmod 10))] : List AV).length = 1 from rfl)) <| oA (oS (show 0 + 1 ≤ List.length (List.flatten (List.replicate 1 [jI 0])) from Nat.le_of_ble_eq_true rfl)) <| oA (oS (show AObj.cells (List.take 0 (List.flatten (List.replicate 1 [jI 0])) ++ [jI (-(q.tmod 10))] ++ List.drop 1 (List.flatten (List.replicate 1 [jI 0]))) 3 = jC [jI (-(q.tmod 10))] 3 from rfl)) <| oA (oS (show 0 ≤ 0 from Nat.zero_le _)) <| oA (oS (show 0 - 0 + 1 * 1 ≤ List.length [jI (-(q.tmod 10))] from Nat.le_of_ble_eq_true rfl)) <| oA (oS (show 0 < 1 from by decide)) <| oA (oS (show 2 * 1 * 8 ≤ 281474976710656 from by omega)) <| oA (oS (show 2 * 1 < 9223372036854775808 from by omega)) <| oA (oS (show AObj.vec (List.take (1 * 1) (List.drop (0 - 0) [jI (-(q.tmod 10))])) 3 1 = AObj.vec [jI (-(q.tmod 10))] 3 1 from rfl)) <| oA (oS (show (10 : Int) ≠ 0 from by decide)) <| oS (show AV.int .i64 (IntKind.i64.wrap (q.tdiv 10)) = jI (q.tdiv 10) from tdivT hb))
      (oA (oR [jI (q.tdiv 10), AV.vec 1 1]) <| oS (show AObj.vec [jI (-(q.tmod 10))] 3 1 = AObj.ren [1] (AObj.vec (ints .i64 (dN 1 N)) 3 1) from by simp only [AObj.ren, renL_ints, dN_succ, dN_zero]; (first | rw [dig_pos hq (by assumption)] | rw [dig_neg hq (by assumption)]); rfl)) (by kernel_rfl)
  · exact tri_ren [1] (q1 ++ [rG [hhB 1 false], rG [(2, {nm := [0], obj := some [jC [jI (q.tmod 10)] 3]}), (3, {nm := [1], obj := some [AObj.vec [jI (q.tmod 10)] 3 1]})], rG [hhI 1 (q.tdiv 10)]])
      (oA o1 <| oA (oS (bF c2)) <| oA (oS (show ([jI (q.tmod 10)] : List AV).length = 1 from rfl)) <| oA (oS (show 0 + 1 ≤ List.length (List.flatten (List.replicate 1 [jI 0])) from Nat.le_of_ble_eq_true rfl)) <| oA (oS (show AObj.cells (List.take 0 (List.flatten (List.replicate 1 [jI 0])) ++ [jI (q.tmod 10)] ++ List.drop 1 (List.flatten (List.replicate 1 [jI 0]))) 3 = jC [jI (q.tmod 10)] 3 from rfl)) <| oA (oS (show 0 ≤ 0 from Nat.zero_le _)) <| oA (oS (show 0 - 0 + 1 * 1 ≤ List.length [jI (q.tmod 10)] from Nat.le_of_ble_eq_true rfl)) <| oA (oS (show 0 < 1 from by decide)) <| oA (oS (show 2 * 1 * 8 ≤ 281474976710656 from by omega)) <| oA (oS (show 2 * 1 < 9223372036854775808 from by omega)) <| oA (oS (show AObj.vec (List.take (1 * 1) (List.drop (0 - 0) [jI (q.tmod 10)])) 3 1 = AObj.vec [jI (q.tmod 10)] 3 1 from rfl)) <| oA (oS (show (10 : Int) ≠ 0 from by decide)) <| oS (show AV.int .i64 (IntKind.i64.wrap (q.tdiv 10)) = jI (q.tdiv 10) from tdivT hb))
      (oA (oR [jI (q.tdiv 10), AV.vec 1 1]) <| oS (show AObj.vec [jI (q.tmod 10)] 3 1 = AObj.ren [1] (AObj.vec (ints .i64 (dN 1 N)) 3 1) from by simp only [AObj.ren, renL_ints, dN_succ, dN_zero]; (first | rw [dig_pos hq (by assumption)] | rw [dig_neg hq (by assumption)]); rfl)) (by kernel_rfl)

theorem digits_round (q : Int) (N k : Nat) (hk : k < 1000000) (hq : q.natAbs = N / 10 ^ k) (hb : -9223372036854775808 ≤ q ∧ q < 9223372036854775808) (hn : q ≠ 0)  : Tri Try.prog (loopN (bodyOf Try.f42) 0) (digits_inv q N k) .normal (digits_inv (q.tdiv 10) N (k + 1)) := by
  have htm := tmod_range q
  have o1 := oA (oS (show AV.bool (q != 0) = jB true from neT hn)) <| oS (show (10 : Int) ≠ 0 from by decide)
  let q1 : List Orc := [rG [hhB 1 true], rG []]
  by_cases c2 : (q.tmod 10) < 0
  · exact tri_ren [2] (q1 ++ ([rG [hhB 1 true], rG [hhI 1 (-(q.tmod 10))], rG [(2, {nm := [1], obj := some [jC [jI (-(q.tmod 10))] 3]}), (3, {nm := [2], obj := some [AObj.vec (ints .i64 ((dN k N) ++ [(-(q.tmod 10))])) 3 1]})], rG [hhI 1 (q.tdiv 10)]]))
      (oA o1 <| oA (oS (bT c2)) <| oA (oW (0 - (q.tmod 10)) (-(q.tmod 10)) (by omega)) <| oA (oS (show ([jI (-(q.tmod 10))] : List AV).length = 1 from rfl)) <| oA (oS (show 0 + 1 ≤ List.length (List.flatten (List.replicate 1 [jI 0])) from Nat.le_of_ble_eq_true rfl)) <| oA (oS (show AObj.cells (List.take 0 (List.flatten (List.replicate 1 [jI 0])) ++ [jI (-(q.tmod 10))] ++ List.drop 1 (List.flatten (List.replicate 1 [jI 0]))) 3 = jC [jI (-(q.tmod 10))] 3 from rfl)) <| oA (oS (show 0 ≤ 0 from Nat.zero_le _)) <| oA (oS (show 0 - 0 + 1 * 1 ≤ List.length [jI (-(q.tmod 10))] from Nat.le_of_ble_eq_true rfl)) <| oA (oS (show List.length (ints .i64 (dN k N)) = k * 1 from (by simp only [List.length_cons, List.length_nil, List.length_append, ints_length, u8s_length, List.length_replicate, List.length_set, List.length_map, dN_length, dg_length] <;> omega))) <| oA (oS (show 2 * (k + 1) * 8 ≤ 281474976710656 from by omega)) <| oA (oS (show 2 * (k + 1) < 9223372036854775808 from by omega)) <| oA (oS (show AObj.vec ((ints .i64 (dN k N)) ++ (List.take (1 * 1) (List.drop (0 - 0) [jI (-(q.tmod 10))]))) 3 1 = AObj.vec (ints .i64 ((dN k N) ++ [(-(q.tmod 10))])) 3 1 from by simp [ints])) <| oA (oS (show (10 : Int) ≠ 0 from by decide)) <| oS (show AV.int .i64 (IntKind.i64.wrap (q.tdiv 10)) = jI (q.tdiv 10) from tdivT hb))
      (oA (oR [jI (q.tdiv 10), AV.vec 2 (k + 1)]) <| oS (show AObj.vec (ints .i64 ((dN k N) ++ [(-(q.tmod 10))])) 3 1 = AObj.ren [2] (AObj.vec (ints .i64 (dN (k + 1) N)) 3 1) from by simp only [AObj.ren, renL_ints, dN_succ, dN_zero]; (first | rw [dig_pos hq (by assumption)] | rw [dig_neg hq (by assumption)]))) (by kernel_rfl)
  · exact tri_ren [2] (q1 ++ ([rG [hhB 1 false], rG [(2, {nm := [1], obj := some [jC [jI (q.tmod 10)] 3]}), (3, {nm := [2], obj := some [AObj.vec (ints .i64 ((dN k N) ++ [(q.tmod 10)])) 3 1]})], rG [hhI 1 (q.tdiv 10)]]))
      (oA o1 <| oA (oS (bF c2)) <| oA (oS (show ([jI (q.tmod 10)] : List AV).length = 1 from rfl)) <| oA (oS (show 0 + 1 ≤ List.length (List.flatten (List.replicate 1 [jI 0])) from Nat.le_of_ble_eq_true rfl)) <| oA (oS (show AObj.cells (List.take 0 (List.flatten (List.replicate 1 [jI 0])) ++ [jI (q.tmod 10)] ++ List.drop 1 (List.flatten (List.replicate 1 [jI 0]))) 3 = jC [jI (q.tmod 10)] 3 from rfl)) <| oA (oS (show 0 ≤ 0 from Nat.zero_le _)) <| oA (oS (show 0 - 0 + 1 * 1 ≤ List.length [jI (q.tmod 10)] from Nat.le_of_ble_eq_true rfl)) <| oA (oS (show List.length (ints .i64 (dN k N)) = k * 1 from (by simp only [List.length_cons, List.length_nil, List.length_append, ints_length, u8s_length, List.length_replicate, List.length_set, List.length_map, dN_length, dg_length] <;> omega))) <| oA (oS (show 2 * (k + 1) * 8 ≤ 281474976710656 from by omega)) <| oA (oS (show 2 * (k + 1) < 9223372036854775808 from by omega)) <| oA (oS (show AObj.vec ((ints .i64 (dN k N)) ++ (List.take (1 * 1) (List.drop (0 - 0) [jI (q.tmod 10)]))) 3 1 = AObj.vec (ints .i64 ((dN k N) ++ [(q.tmod 10)])) 3 1 from by simp [ints])) <| oA (oS (show (10 : Int) ≠ 0 from by decide)) <| oS (show AV.int .i64 (IntKind.i64.wrap (q.tdiv 10)) = jI (q.tdiv 10) from tdivT hb))
      (oA (oR [jI (q.tdiv 10), AV.vec 2 (k + 1)]) <| oS (show AObj.vec (ints .i64 ((dN k N) ++ [(q.tmod 10)])) 3 1 = AObj.ren [2] (AObj.vec (ints .i64 (dN (k + 1) N)) 3 1) from by simp only [AObj.ren, renL_ints, dN_succ, dN_zero]; (first | rw [dig_pos hq (by assumption)] | rw [dig_neg hq (by assumption)]))) (by kernel_rfl)

def digits_out0  : AState :=
  ⟨[none, none, none, some (AV.nilslice), none, none, none, none, none, none, none, none, none, none, none, none, none, none, none, none], [none, none, none]⟩

def digits_out (N : Nat) : AState :=
  ⟨[none, none, none, some (AV.vec 0 (nd N)), none, none, none, none, none, none, none, none, none, none, none, none, none, none, none, none], [some (AObj.vec (ints .i64 (dg N)) 3 1), none, none]⟩

theorem digits_last0  : Tri Try.prog (loopN (bodyOf Try.f42) 0) (digits_inv0 0) (.exit 0) digits_out0 := by
  exact tri_weak [rG [hhB 1 false]]
    (oS (show AV.bool ((0 : Int) != 0) = jB false from boolE (by decide)))
    (oR [AV.nilslice]) (by kernel_rfl)

theorem digits_last (N : Nat) : Tri Try.prog (loopN (bodyOf Try.f42) 0) (digits_inv 0 N (nd N)) (.exit 0) (digits_out N) := by
  exact tri_weak [rG [hhB 1 false]]
    (oS (show AV.bool ((0 : Int) != 0) = jB false from boolE (by decide)))
    (oA (oR [AV.vec 0 (nd N)]) <| oQ [AObj.vec (ints .i64 (dN (nd N) N)) 3 1]) (by kernel_rfl)

def digitsAt (N : Nat) : Nat × Int → AState
  | (0, q) => digits_inv0 q
  | (k + 1, q) => digits_inv q N (k + 1)
theorem digits_loop (n : Int) (hb : -9223372036854775808 ≤ n ∧ n < 9223372036854775808) (h0 : n ≠ 0) (hl : nd n.natAbs < 1000000) : Tri Try.prog (.loop (loopN (bodyOf Try.f42) 0)) (digits_inv0 n) (.exit 0) (digits_out n.natAbs) 0 :=
  tri_loop (ι := {p : Nat × Int // p.1 ≤ nd n.natAbs ∧ p.2.natAbs = n.natAbs / 10 ^ p.1 ∧ (-9223372036854775808 ≤ p.2 ∧ p.2 < 9223372036854775808)}) (fun p => digitsAt n.natAbs p.1) (fun p => nd n.natAbs - p.1.1) (ne_normal_exit 0) (by
    rintro ⟨⟨k, q⟩, h1, h2, h3⟩
    simp only at h1 h2 h3
    by_cases hq : q = 0
    · refine .inr ?_
      subst hq
      have hk : nd n.natAbs ≤ k := by
        rcases Nat.lt_or_ge k (nd n.natAbs) with h | h
        · have := Nat.div_pos (le_of_lt_nd h) (Nat.pow_pos (n := k) (by decide : 0 < 10))
          simp at h2; omega
        · exact h
      obtain rfl : k = nd n.natAbs := by omega
      have hp := nd_pos (n := n.natAbs) (by omega)
      have hl := digits_last n.natAbs
      show Tri _ _ (digitsAt n.natAbs (nd n.natAbs, 0)) _ _ _
      rw [hp] at hl ⊢
      exact hl
    · have hk : k < nd n.natAbs := by
        rcases Nat.lt_or_ge k (nd n.natAbs) with h | h
        · exact h
        · have h4 := lt_nd n.natAbs
          have h5 := Nat.pow_le_pow_right (n := 10) (by decide) h
          rw [Nat.div_eq_of_lt (by omega)] at h2; omega
      have hb' := tdiv10 h3
      refine .inl ⟨⟨(k + 1, q.tdiv 10), by simp only; omega, digs_abs h2, hb'⟩, by simp only; omega, ?_⟩
      cases k with
      | zero => exact digits_round0 q n.natAbs h2 h3 hq
      | succ k => exact digits_round q n.natAbs (k + 1) (by omega) h2 h3 hq) ⟨(0, n), Nat.zero_le _, by simp, hb⟩
theorem digits_loop0 : Tri Try.prog (.loop (loopN (bodyOf Try.f42) 0)) (digits_inv0 0) (.exit 0) digits_out0 0 := tri_up (fun _ => digits_inv0 0) (ne_normal_exit 0) 0 (fun k h => absurd h (by omega)) digits_last0 0 (Nat.le_refl _)

theorem digits_meets (n : Int) (hb : -9223372036854775808 ≤ n ∧ n < 9223372036854775808) (hl : nd n.natAbs < 1000000) : Meets Try.prog 42 [jI n] [] (AV.dsl 0 (nd n.natAbs)) [FT n.natAbs] := by
  let q1 : List Orc := [rG [], rG []]
  by_cases c1 : n = 0
  · exact meets_run (fn := Try.f42) 3 (q1 ++ [.loop (⟨[sI 0, none, none, some (AV.nilslice), none, none, none, none, none, none, none, none, none, none, none, none, none, none, none, none], [none, none, none]⟩) (.exit 0) (⟨[none, none, none, some (AV.nilslice), none, none, none, none, none, none, none, none, none, none, none, none, none, none, none, none], [none, none, none]⟩), rG [(1, {nm := [0], view := 1})]]) [{}] Try.func42 (by kernel_rfl) Try.call42
      (oA (oS (show jI n = jI 0 from intE c1)) <| oA (oR [AV.nilslice]) <| oS (show Tri Try.prog (.loop (loopN (bodyOf Try.f42) 0)) (⟨[sI 0, none, none, some (AV.nilslice), none, none, none, none, none, none, none, none, none, none, none, none, none, none, none, none], [none, none, none]⟩) (.exit 0) (⟨[none, none, none, some (AV.nilslice), none, none, none, none, none, none, none, none, none, none, none, none, none, none, none, none], [none, none, none]⟩) from digits_loop0))
      (oA (oS (show AV.dsl 0 0 = AV.dsl 0 (nd n.natAbs) from dslE (by rw [c1]; exact nd_zero.symm))) <| oA (oS (show Fits (AObj.flat true (ints .i64 ([] : List Int))) (FT n.natAbs) from by first | exact Fits.refl _ | exact Fits.ints' (by rw [c1]; simp [dg_zero]))) <| oS (show AvoidO (fun n => decide (1 ≤ n)) (FT n.natAbs) from AvoidO.flat (AvoidL.ints _ _ _))) (by kernel_rfl)
  · exact meets_run (fn := Try.f42) 3 (q1 ++ [.loop (⟨[sI n, none, none, some (AV.nilslice), none, none, none, none, none, none, none, none, none, none, none, none, none, none, none, none], [none, none, none]⟩) (.exit 0) (⟨[none, none, none, some (AV.vec 0 (nd n.natAbs)), none, none, none, none, none, none, none, none, none, none, none, none, none, none, none, none], [some (AObj.vec (ints .i64 (dg n.natAbs)) 3 1), none, none]⟩), rG [(1, {view := 2})]]) [{}] Try.func42 (by kernel_rfl) Try.call42
      (oA (oR [jI n, AV.nilslice]) <| oS (show Tri Try.prog (.loop (loopN (bodyOf Try.f42) 0)) (⟨[sI n, none, none, some (AV.nilslice), none, none, none, none, none, none, none, none, none, none, none, none, none, none, none, none], [none, none, none]⟩) (.exit 0) (⟨[none, none, none, some (AV.vec 0 (nd n.natAbs)), none, none, none, none, none, none, none, none, none, none, none, none, none, none, none, none], [some (AObj.vec (ints .i64 (dg n.natAbs)) 3 1), none, none]⟩) from digits_loop n hb c1 hl))
      (oA (oS (@rfl _ (AV.dsl 0 (nd n.natAbs)))) <| oA (oS (show Fits (FT n.natAbs) (FT n.natAbs) from by first | exact Fits.refl _ | exact Fits.ints' (by rw [c1]; simp [dg_zero]))) <| oS (show AvoidO (fun n => decide (1 ≤ n)) (FT n.natAbs) from AvoidO.flat (AvoidL.ints _ _ _))) (by kernel_rfl)

end Go.Proofs.Ytmgiefeggkikcaa.Rr
