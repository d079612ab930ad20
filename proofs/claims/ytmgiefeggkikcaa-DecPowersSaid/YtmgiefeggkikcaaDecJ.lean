import Derived.Test.YtmgiefeggkikcaaDecI
set_option linter.unusedVariables false
set_option linter.unusedSimpArgs false
set_option maxRecDepth 20000
namespace Go.Proofs.Ytmgiefeggkikcaa
open Go Sx Dc

theorem difference_meets (am ae bm be : Int) (ham : -1000000000000000 < am ∧ am < 1000000000000000) (hae : -9 ≤ ae ∧ ae ≤ 9) (hbm : -1000000000000000 < bm ∧ bm < 1000000000000000) (hbe : -9 ≤ be ∧ be ≤ 9) : Meets Try.prog 56 [jA [jI am, jI ae, jI bm, jI be]] [] (jA ((jB (sumB am ae (-bm) be)) :: (ints .u8 (digs 88 (sumV am ae (-bm) be))))) [] := by
  exact meets_run (fn := Try.f56) 2 [rG [hhN 0 0, (1, {nm := [1], obj := some [jC ((jB false) :: (ints .u8 (List.replicate 88 0))) 50]})], rG [hhV 1 (jA [jI am, jI ae]), hhI 4 bm, hhI 5 (-bm), hhI 8 be, hhV 9 (jA [jI (-bm), jI be]), hhV 10 (jA [jI am, jI ae, jI (-bm), jI be]), (11, {call := some ⟨[], [jA [jI am, jI ae, jI (-bm), jI be]], [], jA ((jB (sumB am ae (-bm) be)) :: (ints .u8 (digs 88 (sumV am ae (-bm) be)))), []⟩, val := some (jA ((jB (sumB am ae (-bm) be)) :: (ints .u8 (digs 88 (sumV am ae (-bm) be)))))}), (12, {obj := some [jC ((jB (sumB am ae (-bm) be)) :: (ints .u8 (digs 88 (sumV am ae (-bm) be)))) 50]})]] [{val := some (jA ((jB (sumB am ae (-bm) be)) :: (ints .u8 (digs 88 (sumV am ae (-bm) be)))))}] Try.func56 (by kernel_rfl) Try.call56
    (oA (oS (show AObj.cells (zeroCellsA Try.prog 50) 50 = jC ((jB false) :: (ints .u8 (List.replicate 88 0))) 50 from by kernel_rfl)) <| oA (oLp ([jI am, jI ae, jI bm, jI be]) 0 2 ([jI am, jI ae]) rfl rfl) <| oA (oLf ([jI am, jI ae, jI bm, jI be]) (2) (jI bm) (rfl)) <| oA (oW (0 - bm) (-bm) (by omega)) <| oA (oLf ([jI am, jI ae, jI bm, jI be]) (3) (jI be) (rfl)) <| oA (oS (show ([jI (-bm)] : List AV).length = 1 from rfl)) <| oA (oS (show 0 + 1 ≤ ([jI 0, jI 0] : List AV).length from Nat.le_of_ble_eq_true (by kernel_rfl))) <| oA (oS (show ([jI be] : List AV).length = 1 from rfl)) <| oA (oS (show 1 + 1 ≤ (List.take 0 [jI 0, jI 0] ++ [jI (-bm)] ++ List.drop 1 [jI 0, jI 0] : List AV).length from Nat.le_of_ble_eq_true (by kernel_rfl))) <| oA (oS (show AV.agg (List.take 1 (List.take 0 [jI 0, jI 0] ++ [jI (-bm)] ++ List.drop 1 [jI 0, jI 0]) ++ [jI be] ++ List.drop 2 (List.take 0 [jI 0, jI 0] ++ [jI (-bm)] ++ List.drop 1 [jI 0, jI 0])) = jA [jI (-bm), jI be] from by kernel_rfl)) <| oA (oS (show ([jI am, jI ae] : List AV).length = 2 from rfl)) <| oA (oS (show 0 + 2 ≤ ([jI 0, jI 0, jI 0, jI 0] : List AV).length from Nat.le_of_ble_eq_true (by kernel_rfl))) <| oA (oS (show ([jI (-bm), jI be] : List AV).length = 2 from rfl)) <| oA (oS (show 2 + 2 ≤ (List.take 0 [jI 0, jI 0, jI 0, jI 0] ++ [jI am, jI ae] ++ List.drop 2 [jI 0, jI 0, jI 0, jI 0] : List AV).length from Nat.le_of_ble_eq_true (by kernel_rfl))) <| oA (oS (show AV.agg (List.take 2 (List.take 0 [jI 0, jI 0, jI 0, jI 0] ++ [jI am, jI ae] ++ List.drop 2 [jI 0, jI 0, jI 0, jI 0]) ++ [jI (-bm), jI be] ++ List.drop 4 (List.take 0 [jI 0, jI 0, jI 0, jI 0] ++ [jI am, jI ae] ++ List.drop 2 [jI 0, jI 0, jI 0, jI 0])) = jA [jI am, jI ae, jI (-bm), jI be] from by kernel_rfl)) <| oA (oC (sum_meets am ae (-bm) be ham (by omega) (by omega) (by omega)) rfl) <| oA (oS (show AV.ren [] (jA ((jB (sumB am ae (-bm) be)) :: (ints .u8 (digs 88 (sumV am ae (-bm) be))))) = jA ((jB (sumB am ae (-bm) be)) :: (ints .u8 (digs 88 (sumV am ae (-bm) be)))) from by simp only [renL, AV.ren, renL_ints, renL_u8s, renL_append])) <| oSw (n := 89) ((jB (sumB am ae (-bm) be)) :: (ints .u8 (digs 88 (sumV am ae (-bm) be)))) ((jB false) :: (ints .u8 (List.replicate 88 0))) 50 (by simp only [List.length_cons, List.length_nil, List.length_append, ints_length, u8s_length, List.length_replicate, List.length_set, List.length_map, digs_length] <;> omega) (by simp only [List.length_cons, List.length_nil, List.length_append, ints_length, u8s_length, List.length_replicate, List.length_set, List.length_map, digs_length] <;> omega))
    (oA (oLw (n := 89) ((jB (sumB am ae (-bm) be)) :: (ints .u8 (digs 88 (sumV am ae (-bm) be)))) (by simp only [List.length_cons, List.length_nil, List.length_append, ints_length, u8s_length, List.length_replicate, List.length_set, List.length_map, digs_length] <;> omega)) <| oA (oS (@rfl _ (jA ((jB (sumB am ae (-bm) be)) :: (ints .u8 (digs 88 (sumV am ae (-bm) be))))))) <| oS (show Avoid (fun n => decide (0 ≤ n)) (jA ((jB (sumB am ae (-bm) be)) :: (ints .u8 (digs 88 (sumV am ae (-bm) be))))) from Avoid.agg (AvoidL.cons (Avoid.bool _ _) (AvoidL.ints _ _ _)))) (by kernel_rfl)

def unlikeB (am bm : Int) : Bool := !(decide (am < 0) == decide (bm < 0))

theorem unlike_meets (am ae bm be : Int) : Meets Try.prog 76 [jA [jI am, jI ae, jI bm, jI be]] [] (jB (unlikeB am bm)) [] := by
  exact meets_run (fn := Try.f76) 1 [rG [hhN 0 0], rG [hhI 2 am, hhI 6 bm]] [{}] Try.func76 (by kernel_rfl) Try.call76
    (oA (oLf ([jI am, jI ae, jI bm, jI be]) (0) (jI am) (rfl)) <| oLf ([jI am, jI ae, jI bm, jI be]) (2) (jI bm) (rfl))
    (oS (@rfl _ (jB (unlikeB am bm)))) (by kernel_rfl)

def mulV (am ae bm be : Int) : Int := aV am (ae + be) * ((bm.natAbs : Nat) : Int)
theorem mulV_digs {am ae bm be : Int} (ham : -1000000000000000 < am ∧ am < 1000000000000000) (hae : -9 ≤ ae ∧ ae ≤ 9) (hbm : -1000000000000000 < bm ∧ bm < 1000000000000000) (hbe : -9 ≤ be ∧ be ≤ 9) :
    timesArr ((bm.natAbs : Nat) : Int) (digs 88 (aV am (ae + be))) 0 = digs 88 (mulV am ae bm be) := by
  have hX := aV_bounds ham (e := ae + be) (by omega)
  have h73 : (10 : Int) ^ 73 ≤ 10 ^ 88 := by decide
  have h1 : aV am (ae + be) * ((bm.natAbs : Nat) : Int) ≤ (10 ^ 73 - 1) * (10 ^ 15 - 1) := Int.mul_le_mul (by omega) (by omega) (by omega) (by decide)
  have h2 : ((10 : Int) ^ 73 - 1) * (10 ^ 15 - 1) < 10 ^ 88 := by decide
  exact timesArr_zero (by omega) ⟨hX.1, by omega⟩ (by omega)
attribute [irreducible] mulV

theorem product_meets (am ae bm be : Int) (ham : -1000000000000000 < am ∧ am < 1000000000000000) (hae : -9 ≤ ae ∧ ae ≤ 9) (hbm : -1000000000000000 < bm ∧ bm < 1000000000000000) (hbe : -9 ≤ be ∧ be ≤ 9) : Meets Try.prog 55 [jA [jI am, jI ae, jI bm, jI be]] [] (jA ((jB (unlikeB am bm)) :: (ints .u8 (digs 88 (mulV am ae bm be))))) [] := by
  exact meets_run (fn := Try.f55) 3 [rG [hhN 0 0, (1, {nm := [1], obj := some [jC ((jB false) :: (ints .u8 (List.replicate 88 0))) 50]})], rG [hhI 2 am, hhI 5 ae, hhI 8 be, hhI 9 (ae + be), hhV 10 (jA [jI am, jI (ae + be)]), (11, {call := some ⟨[], [jA [jI am, jI (ae + be)]], [], jA ((jB (decide (am < 0))) :: (ints .u8 (digs 88 (aV am (ae + be))))), []⟩, val := some (jA ((jB (decide (am < 0))) :: (ints .u8 (digs 88 (aV am (ae + be))))))}), hhI 14 bm, hhM 15 (size_meets bm (by omega)), (16, {call := some ⟨[], [jA ((jB (decide (am < 0))) :: (ints .u8 (digs 88 (aV am (ae + be))))), jI ((bm.natAbs : Nat) : Int)], [], jA ((jB (decide (am < 0))) :: (ints .u8 (digs 88 (mulV am ae bm be)))), []⟩, val := some (jA ((jB (decide (am < 0))) :: (ints .u8 (digs 88 (mulV am ae bm be)))))}), (17, {nm := [2], obj := some [jC ((jB false) :: (ints .u8 (List.replicate 88 0))) 50]}), (18, {obj := some [jC ((jB (decide (am < 0))) :: (ints .u8 (digs 88 (mulV am ae bm be)))) 50]})], rG [hhV 0 (jA [jI am, jI ae, jI bm, jI be]), hhM 1 (unlike_meets am ae bm be), (3, {obj := some [jC ((jB (unlikeB am bm)) :: (ints .u8 (digs 88 (mulV am ae bm be)))) 50]})], rG [hhV 0 (jA ((jB (unlikeB am bm)) :: (ints .u8 (digs 88 (mulV am ae bm be))))), (1, {obj := some [jC ((jB (unlikeB am bm)) :: (ints .u8 (digs 88 (mulV am ae bm be)))) 50]})]] [{val := some (jA ((jB (unlikeB am bm)) :: (ints .u8 (digs 88 (mulV am ae bm be)))))}] Try.func55 (by kernel_rfl) Try.call55
    (oA (oS (show AObj.cells (zeroCellsA Try.prog 50) 50 = jC ((jB false) :: (ints .u8 (List.replicate 88 0))) 50 from by kernel_rfl)) <| oA (oLf ([jI am, jI ae, jI bm, jI be]) (0) (jI am) (rfl)) <| oA (oLf ([jI am, jI ae, jI bm, jI be]) (1) (jI ae) (rfl)) <| oA (oLf ([jI am, jI ae, jI bm, jI be]) (3) (jI be) (rfl)) <| oA (oWs (ae + be) (by omega)) <| oA (oS (show ([jI am] : List AV).length = 1 from rfl)) <| oA (oS (show 0 + 1 ≤ ([jI 0, jI 0] : List AV).length from Nat.le_of_ble_eq_true (by kernel_rfl))) <| oA (oS (show ([jI (ae + be)] : List AV).length = 1 from rfl)) <| oA (oS (show 1 + 1 ≤ (List.take 0 [jI 0, jI 0] ++ [jI am] ++ List.drop 1 [jI 0, jI 0] : List AV).length from Nat.le_of_ble_eq_true (by kernel_rfl))) <| oA (oS (show AV.agg (List.take 1 (List.take 0 [jI 0, jI 0] ++ [jI am] ++ List.drop 1 [jI 0, jI 0]) ++ [jI (ae + be)] ++ List.drop 2 (List.take 0 [jI 0, jI 0] ++ [jI am] ++ List.drop 1 [jI 0, jI 0])) = jA [jI am, jI (ae + be)] from by kernel_rfl)) <| oA (oC (show Meets Try.prog 33 [jA [jI am, jI (ae + be)]] [] (jA ((jB (decide (am < 0))) :: (ints .u8 (digs 88 (aV am (ae + be)))))) [] from lay_meets am (ae + be) _ (by omega) (by omega) (digs_aV _ _)) rfl) <| oA (oS (show AV.ren [] (jA ((jB (decide (am < 0))) :: (ints .u8 (digs 88 (aV am (ae + be)))))) = jA ((jB (decide (am < 0))) :: (ints .u8 (digs 88 (aV am (ae + be))))) from by simp only [renL, AV.ren, renL_ints, renL_u8s, renL_append])) <| oA (oLf ([jI am, jI ae, jI bm, jI be]) (2) (jI bm) (rfl)) <| oA (oC (size_meets bm (by omega)) rfl) <| oA (oS (show [jA ((jB (decide (am < 0))) :: (ints .u8 (digs 88 (aV am (ae + be))))), jI ((bm.natAbs : Nat) : Int)] = renL [] [jA ((jB (decide (am < 0))) :: (ints .u8 (digs 88 (aV am (ae + be))))), jI ((bm.natAbs : Nat) : Int)] from by simp only [renL, AV.ren, renL_ints, renL_u8s, renL_append])) <| oA (oS (show Meets Try.prog 75 [jA ((jB (decide (am < 0))) :: (ints .u8 (digs 88 (aV am (ae + be))))), jI ((bm.natAbs : Nat) : Int)] [] (jA ((jB (decide (am < 0))) :: (ints .u8 (digs 88 (mulV am ae bm be))))) [] from times_meets _ _ (by omega) _ (digs_dig _ _) (digs_length _ _) _ (mulV_digs ham hae hbm hbe))) <| oA (oS (show AV.ren [] (jA ((jB (decide (am < 0))) :: (ints .u8 (digs 88 (mulV am ae bm be))))) = jA ((jB (decide (am < 0))) :: (ints .u8 (digs 88 (mulV am ae bm be)))) from by simp only [renL, AV.ren, renL_ints, renL_u8s, renL_append])) <| oA (oS (show AObj.cells (zeroCellsA Try.prog 50) 50 = jC ((jB false) :: (ints .u8 (List.replicate 88 0))) 50 from by kernel_rfl)) <| oA (oSw (n := 89) ((jB (decide (am < 0))) :: (ints .u8 (digs 88 (mulV am ae bm be)))) ((jB false) :: (ints .u8 (List.replicate 88 0))) 50 (by simp only [List.length_cons, List.length_nil, List.length_append, ints_length, u8s_length, List.length_replicate, List.length_set, List.length_map, digs_length] <;> omega) (by simp only [List.length_cons, List.length_nil, List.length_append, ints_length, u8s_length, List.length_replicate, List.length_set, List.length_map, digs_length] <;> omega)) <| oA (oLw ([jI am, jI ae, jI bm, jI be]) (rfl)) <| oA (oC (unlike_meets am ae bm be) rfl) <| oA (oS (show ([jB (unlikeB am bm)] : List AV).length = 1 from rfl)) <| oA (oS (show 0 + 1 ≤ List.length ((jB (decide (am < 0))) :: (ints .u8 (digs 88 (mulV am ae bm be)))) from (by simp only [List.length_cons, List.length_nil, List.length_append, ints_length, u8s_length, List.length_replicate, List.length_set, List.length_map, digs_length] <;> omega))) <| oA (oS (show AObj.cells (List.take 0 ((jB (decide (am < 0))) :: (ints .u8 (digs 88 (mulV am ae bm be)))) ++ [jB (unlikeB am bm)] ++ List.drop (0 + 1) ((jB (decide (am < 0))) :: (ints .u8 (digs 88 (mulV am ae bm be))))) 50 = jC ((jB (unlikeB am bm)) :: (ints .u8 (digs 88 (mulV am ae bm be)))) 50 from rfl)) <| oA (oLw (n := 89) ((jB (unlikeB am bm)) :: (ints .u8 (digs 88 (mulV am ae bm be)))) (by simp only [List.length_cons, List.length_nil, List.length_append, ints_length, u8s_length, List.length_replicate, List.length_set, List.length_map, digs_length] <;> omega)) <| oSw (n := 89) ((jB (unlikeB am bm)) :: (ints .u8 (digs 88 (mulV am ae bm be)))) ((jB false) :: (ints .u8 (List.replicate 88 0))) 50 (by simp only [List.length_cons, List.length_nil, List.length_append, ints_length, u8s_length, List.length_replicate, List.length_set, List.length_map, digs_length] <;> omega) (by simp only [List.length_cons, List.length_nil, List.length_append, ints_length, u8s_length, List.length_replicate, List.length_set, List.length_map, digs_length] <;> omega))
    (oA (oLw (n := 89) ((jB (unlikeB am bm)) :: (ints .u8 (digs 88 (mulV am ae bm be)))) (by simp only [List.length_cons, List.length_nil, List.length_append, ints_length, u8s_length, List.length_replicate, List.length_set, List.length_map, digs_length] <;> omega)) <| oA (oS (@rfl _ (jA ((jB (unlikeB am bm)) :: (ints .u8 (digs 88 (mulV am ae bm be))))))) <| oS (show Avoid (fun n => decide (0 ≤ n)) (jA ((jB (unlikeB am bm)) :: (ints .u8 (digs 88 (mulV am ae bm be))))) from Avoid.agg (AvoidL.cons (Avoid.bool _ _) (AvoidL.ints _ _ _)))) (by kernel_rfl)

theorem digs_put {n q : Nat} {h d : Int} (hq : q < n) (hd : 0 ≤ d ∧ d ≤ 9) : (digs n (h * 10 ^ (q + 1))).set (n - 1 - q) d = digs n (h * 10 ^ (q + 1) + d * 10 ^ q) := by
  have e1 := digs_add q (n - q) (h * 10 ^ (q + 1))
  have e2 := digs_add q (n - q) (h * 10 ^ (q + 1) + d * 10 ^ q)
  rw [show n - q + q = n by omega] at e1 e2
  have hp := pow_pos' q
  have q1 : h * 10 ^ (q + 1) / 10 ^ q = h * 10 := by rw [Int.pow_succ, Int.mul_comm (10 ^ q) 10, ← Int.mul_assoc, Int.mul_ediv_cancel _ (by omega)]
  have q2 : (h * 10 ^ (q + 1) + d * 10 ^ q) / 10 ^ q = h * 10 + d := by rw [Int.add_mul_ediv_right _ _ (by omega), q1]
  have m2 : digs q (h * 10 ^ (q + 1) + d * 10 ^ q) = digs q (h * 10 ^ (q + 1)) := by
    rw [← digs_mod q (h * 10 ^ (q + 1) + d * 10 ^ q), ← digs_mod q (h * 10 ^ (q + 1)), Int.add_mul_emod_self_right]
  rw [e1, e2, q1, q2, m2]
  obtain ⟨m, hm⟩ : ∃ m, n - q = m + 1 := ⟨n - q - 1, by omega⟩
  rw [hm, List.set_append_left _ _ (by rw [digs_length]; omega)]
  congr 1
  rw [digs, digs, show n - 1 - q = m by omega, List.set_append_right _ _ (by rw [digs_length]; omega), digs_length]
  rw [show h * 10 / 10 = h by omega, show (h * 10 + d) / 10 = h by omega, show (h * 10 + d) % 10 = d by omega]
  simp
theorem mulmod (x b : Int) : x % b * 10 % b = x * 10 % b := by
  rw [Int.mul_emod x 10 b, Int.mul_emod (x % b) 10 b, Int.emod_emod_of_dvd x (Int.dvd_refl b)]
/-- The quotient's figures, cut off behind the fortieth. -/
def quoV (am ae bm be : Int) : Int := ((am.natAbs : Nat) : Int) * 10 ^ (ae - be + 40).toNat / ((bm.natAbs : Nat) : Int)

def quo_inv (am ae bm be b : Int) (mx : Bool) (r : Int) (ds : List Int) (k : Int) : AState :=
  ⟨[none, none, sP 1 0, sI r, sI b, none, sP 2 0, sI k, none, none, none, none, none, none, none, none, none, none, none, none, none, none, none, none, none, none, none, none, none, none, none, none, none, none, none, none, none, none, none, none, none, none, none, none, none, none, none, none, none, none], [some (jC [jI am, jI ae, jI bm, jI be] 65), some (jC ((jB false) :: (ints .u8 (List.replicate 88 0))) 50), some (jC ((jB mx) :: (ints .u8 ds)) 50)]⟩

theorem quo_round (am ae bm be b : Int) (mx : Bool) (r : Int) (ds : List Int) (k : Nat) (hl : ds.length = 88) (hk : k < 88) (hb : 0 < b ∧ b < 1000000000000000) (hr : 0 ≤ r ∧ r < 100000000000000000) (hm : 0 ≤ r % b ∧ r % b < b) (hd : 0 ≤ r % b * 10 / b ∧ r % b * 10 / b ≤ 9) : Tri Try.prog (loopN (bodyOf Try.f57) 0) (quo_inv am ae bm be b mx r ds k) .normal (quo_inv am ae bm be b mx (r % b * 10) (ds.set k (r % b * 10 / b)) ((k + 1 : Nat) : Int)) := by
  exact tri_weak [rG [hhB 1 true], rG [hhI 2 (r % b), hhI 3 ((r % b) * 10)], rG [hhI 3 (r % b * 10 / b), hhV 4 (jU (r % b * 10 / b)), hhV 6 (jP 2 (k + 1)), (7, {obj := some [jC ((jB mx) :: (ints .u8 (ds.set k (r % b * 10 / b)))) 50]})], rG [hhI 1 ((k + 1 : Nat) : Int)]]
    (oA (oS (show AV.bool (decide (((k : Nat) : Int) < 88)) = jB true from bT (by omega))) <| oA (oS (show b ≠ 0 from by omega)) <| oA (oS (show AV.int .i64 (r.tmod b) = jI (r % b) from remI ⟨hr.1, rfl⟩)) <| oA (oWs ((r % b) * 10) (by omega)) <| oA (oS (show b ≠ 0 from by omega)) <| oA (oS (show AV.int .i64 (IntKind.i64.wrap (((r % b) * 10).tdiv b)) = jI (r % b * 10 / b) from quoI ⟨by omega, by omega, by omega, rfl⟩)) <| oA (oS (show AV.int .u8 (IntKind.u8.wrap (r % b * 10 / b)) = jU (r % b * 10 / b) from w_u8 (by omega))) <| oA (oS (show 0 ≤ ((k : Nat) : Int) from by omega)) <| oA (oS (show ((k : Nat) : Int) < ((88 : Nat) : Int) from by omega)) <| oA (oS (show AV.ptr 2 (1 + Int.toNat ((k : Nat) : Int) * 1) = jP 2 (k + 1) from ptrE (by omega))) <| oA (oS (show ([jU (r % b * 10 / b)] : List AV).length = 1 from rfl)) <| oA (oS (show (k + 1) + 1 ≤ List.length ((jB mx) :: (ints .u8 ds)) from (by simp only [List.length_cons, List.length_nil, List.length_append, ints_length, u8s_length, List.length_replicate, List.length_set, List.length_map, digs_length] <;> omega))) <| oA (oS (show AObj.cells (List.take (k + 1) ((jB mx) :: (ints .u8 ds)) ++ [jU (r % b * 10 / b)] ++ List.drop ((k + 1) + 1) ((jB mx) :: (ints .u8 ds))) 50 = jC ((jB mx) :: (ints .u8 (ds.set k (r % b * 10 / b)))) 50 from store_ints [jB mx] (by omega))) <| oW (((k : Nat) : Int) + 1) ((k + 1 : Nat) : Int) (by omega))
    (oA (oR [jP 1 0, jI ((r % b) * 10), jI b, jP 2 0, jI ((k + 1 : Nat) : Int)]) <| oQ [jC [jI am, jI ae, jI bm, jI be] 65, jC ((jB false) :: (ints .u8 (List.replicate 88 0))) 50, jC ((jB mx) :: (ints .u8 (ds.set k (r % b * 10 / b)))) 50]) (by kernel_rfl)

def quo_out (am ae bm be : Int) (mx : Bool) (ds : List Int) : AState :=
  ⟨[none, none, sP 1 0, none, none, none, sP 2 0, none, none, none, none, none, none, none, none, none, none, none, none, none, none, none, none, none, none, none, none, none, none, none, none, none, none, none, none, none, none, none, none, none, none, none, none, none, none, none, none, none, none, none], [some (jC [jI am, jI ae, jI bm, jI be] 65), some (jC ((jB false) :: (ints .u8 (List.replicate 88 0))) 50), some (jC ((jB mx) :: (ints .u8 ds)) 50)]⟩

theorem quo_last (am ae bm be b : Int) (mx : Bool) (r : Int) (ds : List Int) : Tri Try.prog (loopN (bodyOf Try.f57) 0) (quo_inv am ae bm be b mx r ds 88) (.exit 0) (quo_out am ae bm be mx ds) := by
  exact tri_weak [rG [hhB 1 false]]
    (oS (show AV.bool (decide ((88 : Int) < 88)) = jB false from boolE (by decide)))
    (oA (oR [jP 1 0, jP 2 0]) <| oQ [jC [jI am, jI ae, jI bm, jI be] 65, jC ((jB false) :: (ints .u8 (List.replicate 88 0))) 50, jC ((jB mx) :: (ints .u8 ds)) 50]) (by kernel_rfl)

theorem quo_loop (am ae bm be A b : Int) (mx : Bool) (hb : 0 < b ∧ b < 1000000000000000) (hA : 0 ≤ A ∧ A < 1000000000000000) (T : Nat) (hT : T ≤ 88) :
    Tri Try.prog (.loop (loopN (bodyOf Try.f57) 0)) (quo_inv am ae bm be b mx A (digs 88 (A / b * 10 ^ T)) ((88 - T : Nat) : Int)) (.exit 0) (quo_out am ae bm be mx (digs 88 (A * 10 ^ T / b))) := by
  have main := tri_loop (P := Try.prog) (body := loopN (bodyOf Try.f57) 0) (out := quo_out am ae bm be mx (digs 88 (A * 10 ^ T / b))) (ι := {q : Nat × Int // q.1 ≤ T ∧ (0 ≤ q.2 ∧ q.2 < 100000000000000000) ∧ q.2 % b = A * 10 ^ (T - q.1) % b}) (fun i => quo_inv am ae bm be b mx i.1.2 (digs 88 (A * 10 ^ (T - i.1.1) / b * 10 ^ i.1.1)) ((88 - i.1.1 : Nat) : Int)) (fun i => i.1.1) (ne_normal_exit 0) (by
    rintro ⟨⟨p, r⟩, h1, h2, h3⟩
    simp only at h1 h2 h3
    cases p with
    | zero =>
      refine .inr ?_
      have := quo_last am ae bm be b mx r (digs 88 (A * 10 ^ T / b))
      simpa using this
    | succ p =>
      have hm := Int.emod_nonneg r (by omega : b ≠ 0)
      have hm2 := Int.emod_lt_of_pos r hb.1
      have hd : 0 ≤ r % b * 10 / b ∧ r % b * 10 / b ≤ 9 := ⟨Int.ediv_nonneg (by omega) (by omega), Int.le_of_lt_add_one (Int.ediv_lt_of_lt_mul hb.1 (by omega))⟩
      refine .inl ⟨⟨(p, r % b * 10), by simp only; omega, by simp only; omega, ?_⟩, Nat.lt_succ_self p, ?_⟩
      · simp only
        rw [show T - p = T - (p + 1) + 1 by omega, Int.pow_succ, ← Int.mul_assoc, ← mulmod (A * 10 ^ (T - (p + 1))), ← h3]
      · have hr := quo_round am ae bm be b mx r (digs 88 (A * 10 ^ (T - (p + 1)) / b * 10 ^ (p + 1))) (88 - (p + 1)) (digs_length _ _) (by omega) hb h2 ⟨hm, hm2⟩ hd
        rw [show (88 - (p + 1) : Nat) = 88 - 1 - p by omega, digs_put (by omega) hd, show 88 - 1 - p + 1 = 88 - p by omega] at hr
        have e : A * 10 ^ (T - (p + 1)) / b * 10 ^ (p + 1) + r % b * 10 / b * 10 ^ p = A * 10 ^ (T - p) / b * 10 ^ p := by
          rw [Int.pow_succ 10 p, Int.mul_comm (10 ^ p) 10, ← Int.mul_assoc, ← Int.add_mul]
          congr 1
          rw [h3, show T - p = T - (p + 1) + 1 by omega, Int.pow_succ, ← Int.mul_assoc]
          generalize A * 10 ^ (T - (p + 1)) = x
          have e1 := Int.mul_ediv_add_emod x b
          have e2 : x * 10 = x % b * 10 + x / b * 10 * b := by
            have : x / b * 10 * b = b * (x / b) * 10 := by rw [Int.mul_comm b, Int.mul_assoc, Int.mul_comm 10 b, Int.mul_assoc]
            omega
          rw [e2, Int.add_mul_ediv_right _ _ (by omega)]; omega
        rw [e] at hr
        simpa using hr) ⟨(T, A), Nat.le_refl _, by simp only; omega, by simp⟩
  simpa using main

end Go.Proofs.Ytmgiefeggkikcaa
