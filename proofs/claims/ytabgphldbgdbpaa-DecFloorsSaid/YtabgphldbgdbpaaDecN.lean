import Derived.Test.YtabgphldbgdbpaaDecM
set_option linter.unusedVariables false
set_option linter.unusedSimpArgs false
set_option maxRecDepth 20000
namespace Go.Proofs.Ytabgphldbgdbpaa
open Go Sx Dc

/-- Rounded, a half away from 0. -/
def hup (a b : Int) : Int := if b ≤ 2 * (a % b) then a / b + 1 else a / b
def sgnI (m : Int) : Int := if m < 0 then -1 else 1
def roundR (m e k : Int) : Int × Int × Int := if rightB m e = true then (if k < -9 ∨ k > 9 then (0, 0, 2) else nearV (sgnI m * (hup (aV m e) (10 ^ (40 - k).toNat) * 10 ^ (40 - k).toNat))) else bad3
theorem set_zero {c p : Nat} (h : p + c = 88) (hc : 0 < c) : (List.replicate 88 (0 : Int)).set (c - 1) 1 = digs 88 (10 ^ p) := by
  have := digs_set (n := 88) (p := p) (v := 0) (d := 1) (by omega) (by decide) (pow_pos' p) (by decide)
  rw [zeros_digs, show c - 1 = 88 - 1 - p by omega, this, Int.one_mul, Int.add_zero]
theorem clear_digs {X : Int} {c p m : Nat} (h : p + c = 88) (hm : m = 88 - c) : (digs 88 X).take c ++ List.replicate m 0 = digs 88 (X / 10 ^ p * 10 ^ p) := by
  have hp := pow_pos' p
  have e := digs_add p c (X / 10 ^ p * 10 ^ p)
  rw [show c + p = 88 by omega] at e
  rw [e, digs_take _ (by omega : c ≤ 88), show 88 - c = p by omega, Int.mul_ediv_cancel _ (by omega : (10 : Int) ^ p ≠ 0), ← digs_mod p (X / 10 ^ p * 10 ^ p), Int.mul_emod_left, ← zeros_digs, hm, show 88 - c = p by omega]
theorem digit_up {X : Int} {c p : Nat} (h : p + c = 88) (hp : 0 < p) (hX : 0 ≤ X) : (digs 88 X).getD c 0 ≥ 5 ↔ 10 ^ p ≤ 2 * (X % 10 ^ p) := by
  rw [digs_get _ (by omega : c < 88), show 88 - 1 - c = p - 1 by omega]
  obtain ⟨q, rfl⟩ : ∃ q, p = q + 1 := ⟨p - 1, by omega⟩
  rw [show q + 1 - 1 = q by omega, Int.pow_succ]
  have hq := pow_pos' q
  have e1 := Int.mul_ediv_add_emod X (10 ^ q)
  have e2 := Int.mul_ediv_add_emod X (10 ^ q * 10)
  have e3 : X / (10 ^ q * 10) = X / 10 ^ q / 10 := by rw [Int.ediv_ediv_of_nonneg (Int.le_of_lt hq)]
  have b1 := Int.emod_nonneg X (by omega : (10 : Int) ^ q ≠ 0)
  have b2 := Int.emod_lt_of_pos X hq
  rw [e3] at e2
  generalize hY : X / 10 ^ q = Y at *
  generalize X % 10 ^ q = r at *
  generalize X % (10 ^ q * 10) = s at *
  have e4 : Y = 10 * (Y / 10) + Y % 10 := by omega
  have hd : 0 ≤ Y % 10 ∧ Y % 10 ≤ 9 := by omega
  have e5 : 10 ^ q * 10 * (Y / 10) + 10 ^ q * (Y % 10) = 10 ^ q * Y := by
    rw [Int.mul_assoc, ← Int.mul_add]; congr 1; omega
  have e6 : s = 10 ^ q * (Y % 10) + r := by omega
  rw [e6]
  generalize Y % 10 = d at *
  generalize (10 : Int) ^ q = z at *
  constructor
  · intro g
    have : z * 5 ≤ z * d := Int.mul_le_mul_of_nonneg_left g (by omega)
    omega
  · intro g
    rcases Int.lt_or_le d 5 with k | k
    · have : z * d ≤ z * 4 := Int.mul_le_mul_of_nonneg_left (by omega) (by omega)
      omega
    · exact k
theorem add_same {m : Bool} {x y : Int} (hx : 0 ≤ x) (hy : 0 ≤ y) (h : x + y < 10 ^ 88) : addArr (sgnOf m m) (digs 88 x) (digs 88 y) 0 = digs 88 (x + y) := by
  rw [show sgnOf m m = 1 by simp [sgnOf], addArr_zero (.inl rfl) ⟨hx, by omega⟩ ⟨hy, by omega⟩ (by omega), Int.one_mul]
theorem round_near {m e : Int} {k : Int} {p : Nat} (hp : 40 - k = p) (hk : ¬ k < -9 ∧ ¬ k > 9) (c1 : rightB m e = true) {D : Int} (hD : D = hup (aV m e) (10 ^ p) * 10 ^ p) :
    AV.tuple [AV.agg [AV.int .i64 (nearM (decide (m < 0)) (digs 88 D)).1, AV.int .i64 (nearM (decide (m < 0)) (digs 88 D)).2], AV.int .i64 (nearE (digs 88 D))] =
    AV.tuple [AV.agg [AV.int .i64 (roundR m e k).1, AV.int .i64 (roundR m e k).2.1], AV.int .i64 (roundR m e k).2.2] := by
  have hx := (aV88 c1).1
  have hpp := pow_pos' p
  have hu : 0 ≤ hup (aV m e) (10 ^ p) := by
    have := Int.ediv_nonneg hx (Int.le_of_lt hpp)
    unfold hup; split <;> omega
  have hD0 : 0 ≤ D := by rw [hD]; exact Int.mul_nonneg hu (Int.le_of_lt hpp)
  rw [roundR, if_pos c1, if_neg (by omega), show (40 - k).toNat = p by omega, ← hD]
  have hv : (((sgnI m * D).natAbs : Nat) : Int) = D := by unfold sgnI; split <;> omega
  have hs := near_sign (mx := decide (m < 0)) (v := sgnI m * D) (fun h0 => decide_eq_decide.2 (by
    by_cases hm : m < 0
    · rw [show sgnI m = -1 by simp [sgnI, hm]] at h0 ⊢; omega
    · rw [show sgnI m = 1 by simp [sgnI, hm]] at h0 ⊢; omega))
  rw [hv] at hs
  unfold nearV
  rw [hv, ← hs]
theorem round_bound {m e : Int} {p : Nat} (hp : p ≤ 49) (c1 : rightB m e = true) : 0 ≤ aV m e / 10 ^ p * 10 ^ p ∧ aV m e / 10 ^ p * 10 ^ p + 10 ^ p < 10 ^ 88 := by
  have h1 := right_bounds c1
  have h2 := aV_bounds h1.1 (e := e) (by omega)
  have hpp := pow_pos' p
  have a1 : (10 : Int) ^ p ≤ 10 ^ 49 := pow_mono hp
  have a2 : (10 : Int) ^ 73 + 10 ^ 49 < 10 ^ 88 := by decide
  have a3 := Int.ediv_mul_le (aV m e) (by omega : (10 : Int) ^ p ≠ 0)
  have a4 : 0 ≤ aV m e / 10 ^ p * 10 ^ p := Int.mul_nonneg (Int.ediv_nonneg h2.1 (Int.le_of_lt hpp)) (Int.le_of_lt hpp)
  omega

theorem round_meets (am ae k : Int) (hk : -9223372036854775808 ≤ k ∧ k < 9223372036854775808) (c p : Nat) (hc : -9 ≤ k ∧ k ≤ 9 → 48 + k = c) (hp' : -9 ≤ k ∧ k ≤ 9 → 40 - k = p) : Meets Try.prog 28 [AV.agg [AV.int .i64 am, AV.int .i64 ae], AV.int .i64 k] [] (AV.tuple [AV.agg [AV.int .i64 ((roundR am ae k).1), AV.int .i64 ((roundR am ae k).2.1)], AV.int .i64 ((roundR am ae k).2.2)]) [] := by
  by_cases c1 : rightB am ae = true
  · by_cases c2 : k < (-9)
    · exact meets_of_exec (fn := Try.f28) 4 [.reg [(0, {nm := [0]}), (1, {nm := [1]})], .reg [(0, {val := some (AV.agg [AV.int .i64 am, AV.int .i64 ae])}), (1, {call := some ⟨[], [AV.agg [AV.int .i64 am, AV.int .i64 ae]], [], AV.bool (rightB am ae), []⟩, val := some (AV.bool true)}), (2, {val := some (AV.bool false)})], .reg [(1, {val := some (AV.bool true)})], .reg [(1, {obj := some [AObj.cells [AV.int .i64 0, AV.int .i64 0] 23]})]] [{val := some (AV.agg [AV.int .i64 0, AV.int .i64 0])}, {}]
        (r := ⟨[0 ≤ 0,
            0 - 0 + 2 ≤ List.length [AV.int .i64 am, AV.int .i64 ae],
            List.take 2 (List.drop (0 - 0) [AV.int .i64 am, AV.int .i64 ae]) = [AV.int .i64 am, AV.int .i64 ae],
            [AV.agg [AV.int .i64 am, AV.int .i64 ae]] = renL [] [AV.agg [AV.int .i64 am, AV.int .i64 ae]],
            Meets Try.prog 30 [AV.agg [AV.int .i64 am, AV.int .i64 ae]] [] (AV.bool (rightB am ae)) [],
            AV.ren [] (AV.bool (rightB am ae)) = AV.bool true,
            AV.bool (!true) = AV.bool false,
            AV.bool (decide (k < (-9))) = AV.bool true,
            ([AV.int .i64 0, AV.int .i64 0] : List AV).length = 2,
            0 + 2 ≤ List.length [AV.int .i64 0, AV.int .i64 0],
            AObj.cells (List.take 0 [AV.int .i64 0, AV.int .i64 0] ++ [AV.int .i64 0, AV.int .i64 0] ++ List.drop (0 + 2) [AV.int .i64 0, AV.int .i64 0]) 23 = AObj.cells [AV.int .i64 0, AV.int .i64 0] 23],
          .ret, ⟨[some (AV.agg [AV.int .i64 am, AV.int .i64 ae]), some (AV.int .i64 k), some (AV.ptr 0 0), none, some (AV.ptr 1 0), some (AV.int .i64 2), none, none, none, some (AV.agg [AV.int .i64 am, AV.int .i64 ae]), some (AV.bool true), some (AV.bool false), none, some (AV.int .i64 k), some (AV.bool true), some (AV.bool true), some (AV.tuple []), some (AV.tuple []), some (AV.bool true), some (AV.agg [AV.int .i64 0, AV.int .i64 0]), none, none, none, none, none, none, none, none, none, none, none, none, none, none, none, none, none, none, none, none, none, none, none, none, none], [some (AObj.cells [AV.int .i64 am, AV.int .i64 ae] 23), some (AObj.cells [AV.int .i64 0, AV.int .i64 0] 23), none, none]⟩, []⟩)
        (ob := [0 ≤ 0,
            0 - 0 + 2 ≤ List.length [AV.int .i64 0, AV.int .i64 0],
            List.take 2 (List.drop (0 - 0) [AV.int .i64 0, AV.int .i64 0]) = [AV.int .i64 0, AV.int .i64 0],
            AV.tuple [AV.agg [AV.int .i64 0, AV.int .i64 0], AV.int .i64 2] = AV.tuple [AV.agg [AV.int .i64 ((roundR am ae k).1), AV.int .i64 ((roundR am ae k).2.1)], AV.int .i64 ((roundR am ae k).2.2)],
            Avoid (fun n => decide (0 ≤ n)) (AV.tuple [AV.agg [AV.int .i64 ((roundR am ae k).1), AV.int .i64 ((roundR am ae k).2.1)], AV.int .i64 ((roundR am ae k).2.2)])])
        Try.func28 (by kernel_rfl) Try.call28 (by kernel_rfl)
        ⟨Nat.zero_le _, Nat.le_of_ble_eq_true rfl, rfl, rfl, right_meets am ae, boolT c1, rfl, bT c2, rfl, Nat.le_of_ble_eq_true rfl, rfl, trivial⟩
        (.inl rfl) (by kernel_rfl) ⟨Nat.zero_le _, Nat.le_of_ble_eq_true rfl, rfl, by first | (simp [roundR, c1, bad3]; done) | (rw [roundR, if_pos c1, if_pos (by omega)]), Avoid.tuple (AvoidL.cons (Avoid.agg (AvoidL.cons (Avoid.int _ _ _) (AvoidL.cons (Avoid.int _ _ _) (AvoidL.nil _)))) (AvoidL.cons (Avoid.int _ _ _) (AvoidL.nil _))), trivial⟩
    · by_cases c3 : k > 9
      · exact meets_of_exec (fn := Try.f28) 4 [.reg [(0, {nm := [0]}), (1, {nm := [1]})], .reg [(0, {val := some (AV.agg [AV.int .i64 am, AV.int .i64 ae])}), (1, {call := some ⟨[], [AV.agg [AV.int .i64 am, AV.int .i64 ae]], [], AV.bool (rightB am ae), []⟩, val := some (AV.bool true)}), (2, {val := some (AV.bool false)})], .reg [(1, {val := some (AV.bool false)}), (4, {val := some (AV.bool true)})], .reg [(1, {obj := some [AObj.cells [AV.int .i64 0, AV.int .i64 0] 23]})]] [{val := some (AV.agg [AV.int .i64 0, AV.int .i64 0])}, {}]
          (r := ⟨[0 ≤ 0,
              0 - 0 + 2 ≤ List.length [AV.int .i64 am, AV.int .i64 ae],
              List.take 2 (List.drop (0 - 0) [AV.int .i64 am, AV.int .i64 ae]) = [AV.int .i64 am, AV.int .i64 ae],
              [AV.agg [AV.int .i64 am, AV.int .i64 ae]] = renL [] [AV.agg [AV.int .i64 am, AV.int .i64 ae]],
              Meets Try.prog 30 [AV.agg [AV.int .i64 am, AV.int .i64 ae]] [] (AV.bool (rightB am ae)) [],
              AV.ren [] (AV.bool (rightB am ae)) = AV.bool true,
              AV.bool (!true) = AV.bool false,
              AV.bool (decide (k < (-9))) = AV.bool false,
              AV.bool (decide (k > 9)) = AV.bool true,
              ([AV.int .i64 0, AV.int .i64 0] : List AV).length = 2,
              0 + 2 ≤ List.length [AV.int .i64 0, AV.int .i64 0],
              AObj.cells (List.take 0 [AV.int .i64 0, AV.int .i64 0] ++ [AV.int .i64 0, AV.int .i64 0] ++ List.drop (0 + 2) [AV.int .i64 0, AV.int .i64 0]) 23 = AObj.cells [AV.int .i64 0, AV.int .i64 0] 23],
            .ret, ⟨[some (AV.agg [AV.int .i64 am, AV.int .i64 ae]), some (AV.int .i64 k), some (AV.ptr 0 0), none, some (AV.ptr 1 0), some (AV.int .i64 2), none, none, none, some (AV.agg [AV.int .i64 am, AV.int .i64 ae]), some (AV.bool true), some (AV.bool false), none, some (AV.int .i64 k), some (AV.bool false), some (AV.bool false), some (AV.int .i64 k), some (AV.bool true), some (AV.bool true), some (AV.agg [AV.int .i64 0, AV.int .i64 0]), none, none, none, none, none, none, none, none, none, none, none, none, none, none, none, none, none, none, none, none, none, none, none, none, none], [some (AObj.cells [AV.int .i64 am, AV.int .i64 ae] 23), some (AObj.cells [AV.int .i64 0, AV.int .i64 0] 23), none, none]⟩, []⟩)
          (ob := [0 ≤ 0,
              0 - 0 + 2 ≤ List.length [AV.int .i64 0, AV.int .i64 0],
              List.take 2 (List.drop (0 - 0) [AV.int .i64 0, AV.int .i64 0]) = [AV.int .i64 0, AV.int .i64 0],
              AV.tuple [AV.agg [AV.int .i64 0, AV.int .i64 0], AV.int .i64 2] = AV.tuple [AV.agg [AV.int .i64 ((roundR am ae k).1), AV.int .i64 ((roundR am ae k).2.1)], AV.int .i64 ((roundR am ae k).2.2)],
              Avoid (fun n => decide (0 ≤ n)) (AV.tuple [AV.agg [AV.int .i64 ((roundR am ae k).1), AV.int .i64 ((roundR am ae k).2.1)], AV.int .i64 ((roundR am ae k).2.2)])])
          Try.func28 (by kernel_rfl) Try.call28 (by kernel_rfl)
          ⟨Nat.zero_le _, Nat.le_of_ble_eq_true rfl, rfl, rfl, right_meets am ae, boolT c1, rfl, bF c2, bT c3, rfl, Nat.le_of_ble_eq_true rfl, rfl, trivial⟩
          (.inl rfl) (by kernel_rfl) ⟨Nat.zero_le _, Nat.le_of_ble_eq_true rfl, rfl, by first | (simp [roundR, c1, bad3]; done) | (rw [roundR, if_pos c1, if_pos (by omega)]), Avoid.tuple (AvoidL.cons (Avoid.agg (AvoidL.cons (Avoid.int _ _ _) (AvoidL.cons (Avoid.int _ _ _) (AvoidL.nil _)))) (AvoidL.cons (Avoid.int _ _ _) (AvoidL.nil _))), trivial⟩
      · by_cases c4 : ((digs 88 (aV am ae)).getD c 0) ≥ 5
        · have hp : 40 - k = p := hp' (by omega)
          have hcc : 48 + k = c := hc (by omega)
          have hpc : p + c = 88 := by omega
          have hX := (aV88 c1).1
          have hpp := pow_pos' p
          have hb := round_bound (p := p) (by omega) c1
          have hlen := digs_length 88 (aV am ae)
          exact meets_of_exec (fn := Try.f28) 4 [.reg [(0, {nm := [0]}), (1, {nm := [1]})], .reg [(0, {val := some (AV.agg [AV.int .i64 am, AV.int .i64 ae])}), (1, {call := some ⟨[], [AV.agg [AV.int .i64 am, AV.int .i64 ae]], [], AV.bool (rightB am ae), []⟩, val := some (AV.bool true)}), (2, {val := some (AV.bool false)})], .reg [(1, {val := some (AV.bool false)}), (4, {val := some (AV.bool false)})], .reg [(0, {val := some (AV.agg [AV.int .i64 am, AV.int .i64 ae])}), (1, {call := some ⟨[], [AV.agg [AV.int .i64 am, AV.int .i64 ae]], [], AV.agg ((AV.bool (decide (am < 0))) :: (ints .u8 (digs 88 (aV am ae)))), []⟩, val := some (AV.agg ((AV.bool (decide (am < 0))) :: (ints .u8 (digs 88 (aV am ae)))))}), (2, {nm := [2], obj := some [AObj.cells ((AV.bool false) :: (ints .u8 (List.replicate 88 0))) 50]}), (3, {obj := some [AObj.cells ((AV.bool (decide (am < 0))) :: (ints .u8 (digs 88 (aV am ae)))) 50]})], .reg [(1, {val := some (AV.bool (decide (am < 0)))}), (2, {val := some (AV.agg ((AV.bool (decide (am < 0))) :: (ints .u8 (List.replicate 88 0))))}), (3, {nm := [3], obj := some [AObj.cells ((AV.bool false) :: (ints .u8 (List.replicate 88 0))) 50]}), (4, {obj := some [AObj.cells ((AV.bool (decide (am < 0))) :: (ints .u8 (List.replicate 88 0))) 50]})], .reg [(1, {val := some (AV.int .i64 ((c : Nat) : Int))})], .reg [(2, {val := some (AV.ptr 2 (c + 1))}), (3, {val := some (AV.int .u8 ((digs 88 (aV am ae)).getD c 0))}), (4, {val := some (AV.bool true)})], .reg [(1, {val := some (AV.int .i64 (((c - 1) : Nat) : Int))}), (3, {val := some (AV.ptr 3 ((c - 1) + 1))}), (4, {obj := some [AObj.cells ((AV.bool (decide (am < 0))) :: (ints .u8 (digs 88 (10 ^ p)))) 50]})], .reg [(2, {val := some (AV.slice 2 (c + 1) (88 - c) (88 - c))}), (3, {obj := some [AObj.cells ((AV.bool (decide (am < 0))) :: (ints .u8 (digs 88 (aV am ae / 10 ^ p * 10 ^ p)))) 50]})], .reg [(0, {val := some (AV.agg ((AV.bool (decide (am < 0))) :: (ints .u8 (digs 88 (aV am ae / 10 ^ p * 10 ^ p)))))}), (1, {val := some (AV.agg ((AV.bool (decide (am < 0))) :: (ints .u8 (digs 88 (10 ^ p)))))}), (2, {call := some ⟨[], [AV.agg ((AV.bool (decide (am < 0))) :: (ints .u8 (digs 88 (aV am ae / 10 ^ p * 10 ^ p)))), AV.agg ((AV.bool (decide (am < 0))) :: (ints .u8 (digs 88 (10 ^ p))))], [], AV.agg ((AV.bool (decide (am < 0))) :: (ints .u8 (digs 88 (aV am ae / 10 ^ p * 10 ^ p + 10 ^ p)))), []⟩, val := some (AV.agg ((AV.bool (decide (am < 0))) :: (ints .u8 (digs 88 (aV am ae / 10 ^ p * 10 ^ p + 10 ^ p)))))}), (3, {call := some ⟨[], [AV.agg ((AV.bool (decide (am < 0))) :: (ints .u8 (digs 88 (aV am ae / 10 ^ p * 10 ^ p + 10 ^ p))))], [], AV.tuple [AV.agg [AV.int .i64 ((nearM (decide (am < 0)) (digs 88 (aV am ae / 10 ^ p * 10 ^ p + 10 ^ p))).1), AV.int .i64 ((nearM (decide (am < 0)) (digs 88 (aV am ae / 10 ^ p * 10 ^ p + 10 ^ p))).2)], AV.int .i64 (nearE (digs 88 (aV am ae / 10 ^ p * 10 ^ p + 10 ^ p)))], []⟩}), (6, {obj := some [AObj.cells [AV.int .i64 ((nearM (decide (am < 0)) (digs 88 (aV am ae / 10 ^ p * 10 ^ p + 10 ^ p))).1), AV.int .i64 ((nearM (decide (am < 0)) (digs 88 (aV am ae / 10 ^ p * 10 ^ p + 10 ^ p))).2)] 23]})]] [{val := some (AV.agg [AV.int .i64 ((nearM (decide (am < 0)) (digs 88 (aV am ae / 10 ^ p * 10 ^ p + 10 ^ p))).1), AV.int .i64 ((nearM (decide (am < 0)) (digs 88 (aV am ae / 10 ^ p * 10 ^ p + 10 ^ p))).2)])}, {}]
            (r := ⟨[0 ≤ 0,
                0 - 0 + 2 ≤ List.length [AV.int .i64 am, AV.int .i64 ae],
                List.take 2 (List.drop (0 - 0) [AV.int .i64 am, AV.int .i64 ae]) = [AV.int .i64 am, AV.int .i64 ae],
                [AV.agg [AV.int .i64 am, AV.int .i64 ae]] = renL [] [AV.agg [AV.int .i64 am, AV.int .i64 ae]],
                Meets Try.prog 30 [AV.agg [AV.int .i64 am, AV.int .i64 ae]] [] (AV.bool (rightB am ae)) [],
                AV.ren [] (AV.bool (rightB am ae)) = AV.bool true,
                AV.bool (!true) = AV.bool false,
                AV.bool (decide (k < (-9))) = AV.bool false,
                AV.bool (decide (k > 9)) = AV.bool false,
                0 ≤ 0,
                0 - 0 + 2 ≤ List.length [AV.int .i64 am, AV.int .i64 ae],
                List.take 2 (List.drop (0 - 0) [AV.int .i64 am, AV.int .i64 ae]) = [AV.int .i64 am, AV.int .i64 ae],
                [AV.agg [AV.int .i64 am, AV.int .i64 ae]] = renL [] [AV.agg [AV.int .i64 am, AV.int .i64 ae]],
                Meets Try.prog 33 [AV.agg [AV.int .i64 am, AV.int .i64 ae]] [] (AV.agg ((AV.bool (decide (am < 0))) :: (ints .u8 (digs 88 (aV am ae))))) [],
                AV.ren [] (AV.agg ((AV.bool (decide (am < 0))) :: (ints .u8 (digs 88 (aV am ae))))) = AV.agg ((AV.bool (decide (am < 0))) :: (ints .u8 (digs 88 (aV am ae)))),
                AObj.cells (zeroCellsA Try.prog 50) 50 = AObj.cells ((AV.bool false) :: (ints .u8 (List.replicate 88 0))) 50,
                ((AV.bool (decide (am < 0))) :: (ints .u8 (digs 88 (aV am ae))) : List AV).length = 89,
                0 + 89 ≤ List.length ((AV.bool false) :: (ints .u8 (List.replicate 88 0))),
                AObj.cells (List.take 0 ((AV.bool false) :: (ints .u8 (List.replicate 88 0))) ++ ((AV.bool (decide (am < 0))) :: (ints .u8 (digs 88 (aV am ae)))) ++ List.drop (0 + 89) ((AV.bool false) :: (ints .u8 (List.replicate 88 0)))) 50 = AObj.cells ((AV.bool (decide (am < 0))) :: (ints .u8 (digs 88 (aV am ae)))) 50,
                0 ≤ 0,
                ((AV.bool (decide (am < 0))) :: (ints .u8 (digs 88 (aV am ae))) : List AV)[0 - 0]? = some (AV.bool (decide (am < 0))),
                ([AV.bool (decide (am < 0))] : List AV).length = 1,
                0 + 1 ≤ ((zeroCellsA Try.prog 50) : List AV).length,
                AV.agg (List.take 0 (zeroCellsA Try.prog 50) ++ [AV.bool (decide (am < 0))] ++ List.drop 1 (zeroCellsA Try.prog 50)) = AV.agg ((AV.bool (decide (am < 0))) :: (ints .u8 (List.replicate 88 0))),
                AObj.cells (zeroCellsA Try.prog 50) 50 = AObj.cells ((AV.bool false) :: (ints .u8 (List.replicate 88 0))) 50,
                ((AV.bool (decide (am < 0))) :: (ints .u8 (List.replicate 88 0)) : List AV).length = 89,
                0 + 89 ≤ List.length ((AV.bool false) :: (ints .u8 (List.replicate 88 0))),
                AObj.cells (List.take 0 ((AV.bool false) :: (ints .u8 (List.replicate 88 0))) ++ ((AV.bool (decide (am < 0))) :: (ints .u8 (List.replicate 88 0))) ++ List.drop (0 + 89) ((AV.bool false) :: (ints .u8 (List.replicate 88 0)))) 50 = AObj.cells ((AV.bool (decide (am < 0))) :: (ints .u8 (List.replicate 88 0))) 50,
                AV.int .i64 (IntKind.i64.wrap (48 + k)) = AV.int .i64 ((c : Nat) : Int),
                0 ≤ ((c : Nat) : Int),
                ((c : Nat) : Int) < ((88 : Nat) : Int),
                AV.ptr 2 (1 + Int.toNat ((c : Nat) : Int) * 1) = AV.ptr 2 (c + 1),
                0 ≤ (c + 1),
                ((AV.bool (decide (am < 0))) :: (ints .u8 (digs 88 (aV am ae))) : List AV)[(c + 1) - 0]? = some (AV.int .u8 ((digs 88 (aV am ae)).getD c 0)),
                AV.bool (decide (((digs 88 (aV am ae)).getD c 0) ≥ 5)) = AV.bool true,
                AV.int .i64 (IntKind.i64.wrap (((c : Nat) : Int) - 1)) = AV.int .i64 (((c - 1) : Nat) : Int),
                0 ≤ (((c - 1) : Nat) : Int),
                (((c - 1) : Nat) : Int) < ((88 : Nat) : Int),
                AV.ptr 3 (1 + Int.toNat (((c - 1) : Nat) : Int) * 1) = AV.ptr 3 ((c - 1) + 1),
                ([AV.int .u8 1] : List AV).length = 1,
                ((c - 1) + 1) + 1 ≤ List.length ((AV.bool (decide (am < 0))) :: (ints .u8 (List.replicate 88 0))),
                AObj.cells (List.take ((c - 1) + 1) ((AV.bool (decide (am < 0))) :: (ints .u8 (List.replicate 88 0))) ++ [AV.int .u8 1] ++ List.drop (((c - 1) + 1) + 1) ((AV.bool (decide (am < 0))) :: (ints .u8 (List.replicate 88 0)))) 50 = AObj.cells ((AV.bool (decide (am < 0))) :: (ints .u8 (digs 88 (10 ^ p)))) 50,
                0 ≤ (((c : Nat) : Int) : Int),
                ((Int.toNat (((c : Nat) : Int))) : Nat) ≤ 88,
                (88 : Nat) ≤ 88,
                (88 : Nat) ≤ 88,
                AV.slice 2 (if 88 = (Int.toNat (((c : Nat) : Int))) then 1 else 1 + (Int.toNat (((c : Nat) : Int))) * 1) (88 - (Int.toNat (((c : Nat) : Int)))) (88 - (Int.toNat (((c : Nat) : Int)))) = AV.slice 2 (c + 1) (88 - c) (88 - c),
                (c + 1) + List.length (List.flatten (List.replicate (88 - c) [AV.int .u8 0])) ≤ List.length ((AV.bool (decide (am < 0))) :: (ints .u8 (digs 88 (aV am ae)))),
                AObj.cells (List.take (c + 1) ((AV.bool (decide (am < 0))) :: (ints .u8 (digs 88 (aV am ae)))) ++ (List.flatten (List.replicate (88 - c) [AV.int .u8 0])) ++ List.drop ((c + 1) + List.length (List.flatten (List.replicate (88 - c) [AV.int .u8 0]))) ((AV.bool (decide (am < 0))) :: (ints .u8 (digs 88 (aV am ae))))) 50 = AObj.cells ((AV.bool (decide (am < 0))) :: (ints .u8 (digs 88 (aV am ae / 10 ^ p * 10 ^ p)))) 50,
                0 ≤ 0,
                0 - 0 + 89 ≤ List.length ((AV.bool (decide (am < 0))) :: (ints .u8 (digs 88 (aV am ae / 10 ^ p * 10 ^ p)))),
                List.take 89 (List.drop (0 - 0) ((AV.bool (decide (am < 0))) :: (ints .u8 (digs 88 (aV am ae / 10 ^ p * 10 ^ p))))) = (AV.bool (decide (am < 0))) :: (ints .u8 (digs 88 (aV am ae / 10 ^ p * 10 ^ p))),
                0 ≤ 0,
                0 - 0 + 89 ≤ List.length ((AV.bool (decide (am < 0))) :: (ints .u8 (digs 88 (10 ^ p)))),
                List.take 89 (List.drop (0 - 0) ((AV.bool (decide (am < 0))) :: (ints .u8 (digs 88 (10 ^ p))))) = (AV.bool (decide (am < 0))) :: (ints .u8 (digs 88 (10 ^ p))),
                [AV.agg ((AV.bool (decide (am < 0))) :: (ints .u8 (digs 88 (aV am ae / 10 ^ p * 10 ^ p)))), AV.agg ((AV.bool (decide (am < 0))) :: (ints .u8 (digs 88 (10 ^ p))))] = renL [] [AV.agg ((AV.bool (decide (am < 0))) :: (ints .u8 (digs 88 (aV am ae / 10 ^ p * 10 ^ p)))), AV.agg ((AV.bool (decide (am < 0))) :: (ints .u8 (digs 88 (10 ^ p))))],
                Meets Try.prog 60 [AV.agg ((AV.bool (decide (am < 0))) :: (ints .u8 (digs 88 (aV am ae / 10 ^ p * 10 ^ p)))), AV.agg ((AV.bool (decide (am < 0))) :: (ints .u8 (digs 88 (10 ^ p))))] [] (AV.agg ((AV.bool (decide (am < 0))) :: (ints .u8 (digs 88 (aV am ae / 10 ^ p * 10 ^ p + 10 ^ p))))) [],
                AV.ren [] (AV.agg ((AV.bool (decide (am < 0))) :: (ints .u8 (digs 88 (aV am ae / 10 ^ p * 10 ^ p + 10 ^ p))))) = AV.agg ((AV.bool (decide (am < 0))) :: (ints .u8 (digs 88 (aV am ae / 10 ^ p * 10 ^ p + 10 ^ p)))),
                [AV.agg ((AV.bool (decide (am < 0))) :: (ints .u8 (digs 88 (aV am ae / 10 ^ p * 10 ^ p + 10 ^ p))))] = renL [] [AV.agg ((AV.bool (decide (am < 0))) :: (ints .u8 (digs 88 (aV am ae / 10 ^ p * 10 ^ p + 10 ^ p))))],
                Meets Try.prog 32 [AV.agg ((AV.bool (decide (am < 0))) :: (ints .u8 (digs 88 (aV am ae / 10 ^ p * 10 ^ p + 10 ^ p))))] [] (AV.tuple [AV.agg [AV.int .i64 ((nearM (decide (am < 0)) (digs 88 (aV am ae / 10 ^ p * 10 ^ p + 10 ^ p))).1), AV.int .i64 ((nearM (decide (am < 0)) (digs 88 (aV am ae / 10 ^ p * 10 ^ p + 10 ^ p))).2)], AV.int .i64 (nearE (digs 88 (aV am ae / 10 ^ p * 10 ^ p + 10 ^ p)))]) [],
                ([AV.int .i64 ((nearM (decide (am < 0)) (digs 88 (aV am ae / 10 ^ p * 10 ^ p + 10 ^ p))).1), AV.int .i64 ((nearM (decide (am < 0)) (digs 88 (aV am ae / 10 ^ p * 10 ^ p + 10 ^ p))).2)] : List AV).length = 2,
                0 + 2 ≤ List.length [AV.int .i64 0, AV.int .i64 0],
                AObj.cells (List.take 0 [AV.int .i64 0, AV.int .i64 0] ++ [AV.int .i64 ((nearM (decide (am < 0)) (digs 88 (aV am ae / 10 ^ p * 10 ^ p + 10 ^ p))).1), AV.int .i64 ((nearM (decide (am < 0)) (digs 88 (aV am ae / 10 ^ p * 10 ^ p + 10 ^ p))).2)] ++ List.drop (0 + 2) [AV.int .i64 0, AV.int .i64 0]) 23 = AObj.cells [AV.int .i64 ((nearM (decide (am < 0)) (digs 88 (aV am ae / 10 ^ p * 10 ^ p + 10 ^ p))).1), AV.int .i64 ((nearM (decide (am < 0)) (digs 88 (aV am ae / 10 ^ p * 10 ^ p + 10 ^ p))).2)] 23],
              .ret, ⟨[some (AV.agg [AV.int .i64 am, AV.int .i64 ae]), some (AV.int .i64 k), some (AV.ptr 0 0), none, some (AV.ptr 1 0), some (AV.int .i64 (nearE (digs 88 (aV am ae / 10 ^ p * 10 ^ p + 10 ^ p)))), some (AV.ptr 2 0), some (AV.ptr 3 0), some (AV.int .i64 ((c : Nat) : Int)), some (AV.agg [AV.int .i64 am, AV.int .i64 ae]), some (AV.bool true), some (AV.bool false), none, some (AV.int .i64 k), some (AV.bool false), some (AV.bool false), some (AV.int .i64 k), some (AV.bool false), some (AV.bool false), none, some (AV.agg [AV.int .i64 am, AV.int .i64 ae]), some (AV.agg ((AV.bool (decide (am < 0))) :: (ints .u8 (digs 88 (aV am ae))))), some (AV.ptr 2 0), some (AV.bool (decide (am < 0))), some (AV.agg ((AV.bool (decide (am < 0))) :: (ints .u8 (List.replicate 88 0)))), some (AV.int .i64 k), some (AV.int .i64 ((c : Nat) : Int)), some (AV.int .i64 ((c : Nat) : Int)), some (AV.ptr 2 1), some (AV.ptr 2 (c + 1)), some (AV.int .u8 ((digs 88 (aV am ae)).getD c 0)), some (AV.bool true), some (AV.int .i64 ((c : Nat) : Int)), some (AV.int .i64 (((c - 1) : Nat) : Int)), some (AV.ptr 3 1), some (AV.ptr 3 ((c - 1) + 1)), some (AV.ptr 2 1), some (AV.int .i64 ((c : Nat) : Int)), some (AV.slice 2 (c + 1) (88 - c) (88 - c)), some (AV.agg ((AV.bool (decide (am < 0))) :: (ints .u8 (digs 88 (aV am ae / 10 ^ p * 10 ^ p))))), some (AV.agg ((AV.bool (decide (am < 0))) :: (ints .u8 (digs 88 (10 ^ p))))), some (AV.agg ((AV.bool (decide (am < 0))) :: (ints .u8 (digs 88 (aV am ae / 10 ^ p * 10 ^ p + 10 ^ p))))), some (AV.tuple [AV.agg [AV.int .i64 ((nearM (decide (am < 0)) (digs 88 (aV am ae / 10 ^ p * 10 ^ p + 10 ^ p))).1), AV.int .i64 ((nearM (decide (am < 0)) (digs 88 (aV am ae / 10 ^ p * 10 ^ p + 10 ^ p))).2)], AV.int .i64 (nearE (digs 88 (aV am ae / 10 ^ p * 10 ^ p + 10 ^ p)))]), some (AV.agg [AV.int .i64 ((nearM (decide (am < 0)) (digs 88 (aV am ae / 10 ^ p * 10 ^ p + 10 ^ p))).1), AV.int .i64 ((nearM (decide (am < 0)) (digs 88 (aV am ae / 10 ^ p * 10 ^ p + 10 ^ p))).2)]), some (AV.int .i64 (nearE (digs 88 (aV am ae / 10 ^ p * 10 ^ p + 10 ^ p))))], [some (AObj.cells [AV.int .i64 am, AV.int .i64 ae] 23), some (AObj.cells [AV.int .i64 ((nearM (decide (am < 0)) (digs 88 (aV am ae / 10 ^ p * 10 ^ p + 10 ^ p))).1), AV.int .i64 ((nearM (decide (am < 0)) (digs 88 (aV am ae / 10 ^ p * 10 ^ p + 10 ^ p))).2)] 23), some (AObj.cells ((AV.bool (decide (am < 0))) :: (ints .u8 (digs 88 (aV am ae / 10 ^ p * 10 ^ p)))) 50), some (AObj.cells ((AV.bool (decide (am < 0))) :: (ints .u8 (digs 88 (10 ^ p)))) 50)]⟩, []⟩)
            (ob := [0 ≤ 0,
                0 - 0 + 2 ≤ List.length [AV.int .i64 ((nearM (decide (am < 0)) (digs 88 (aV am ae / 10 ^ p * 10 ^ p + 10 ^ p))).1), AV.int .i64 ((nearM (decide (am < 0)) (digs 88 (aV am ae / 10 ^ p * 10 ^ p + 10 ^ p))).2)],
                List.take 2 (List.drop (0 - 0) [AV.int .i64 ((nearM (decide (am < 0)) (digs 88 (aV am ae / 10 ^ p * 10 ^ p + 10 ^ p))).1), AV.int .i64 ((nearM (decide (am < 0)) (digs 88 (aV am ae / 10 ^ p * 10 ^ p + 10 ^ p))).2)]) = [AV.int .i64 ((nearM (decide (am < 0)) (digs 88 (aV am ae / 10 ^ p * 10 ^ p + 10 ^ p))).1), AV.int .i64 ((nearM (decide (am < 0)) (digs 88 (aV am ae / 10 ^ p * 10 ^ p + 10 ^ p))).2)],
                AV.tuple [AV.agg [AV.int .i64 ((nearM (decide (am < 0)) (digs 88 (aV am ae / 10 ^ p * 10 ^ p + 10 ^ p))).1), AV.int .i64 ((nearM (decide (am < 0)) (digs 88 (aV am ae / 10 ^ p * 10 ^ p + 10 ^ p))).2)], AV.int .i64 (nearE (digs 88 (aV am ae / 10 ^ p * 10 ^ p + 10 ^ p)))] = AV.tuple [AV.agg [AV.int .i64 ((roundR am ae k).1), AV.int .i64 ((roundR am ae k).2.1)], AV.int .i64 ((roundR am ae k).2.2)],
                Avoid (fun n => decide (0 ≤ n)) (AV.tuple [AV.agg [AV.int .i64 ((roundR am ae k).1), AV.int .i64 ((roundR am ae k).2.1)], AV.int .i64 ((roundR am ae k).2.2)])])
            Try.func28 (by kernel_rfl) Try.call28 (by kernel_rfl)
            ⟨Nat.zero_le _, Nat.le_of_ble_eq_true rfl, rfl, rfl, right_meets am ae, boolT c1, rfl, bF c2, bF c3, Nat.zero_le _, Nat.le_of_ble_eq_true rfl, rfl, rfl, lay_meets am ae _ (by have := right_bounds c1; omega) (by have := right_bounds c1; omega) (digs_aV _ _), by simp only [renL, AV.ren, renL_ints, renL_u8s, renL_append], by kernel_rfl, (by simp only [List.length_cons, List.length_nil, List.length_append, ints_length, u8s_length, List.length_replicate, List.length_set, List.length_map, digs_length] <;> omega), (by simp only [List.length_cons, List.length_nil, List.length_append, ints_length, u8s_length, List.length_replicate, List.length_set, List.length_map, digs_length] <;> omega), store_whole (by simp only [List.length_cons, List.length_nil, List.length_append, ints_length, u8s_length, List.length_replicate, List.length_set, List.length_map, digs_length] <;> omega), Nat.zero_le _, rfl, rfl, Nat.le_of_ble_eq_true (by kernel_rfl), by kernel_rfl, by kernel_rfl, (by simp only [List.length_cons, List.length_nil, List.length_append, ints_length, u8s_length, List.length_replicate, List.length_set, List.length_map, digs_length] <;> omega), (by simp only [List.length_cons, List.length_nil, List.length_append, ints_length, u8s_length, List.length_replicate, List.length_set, List.length_map, digs_length] <;> omega), store_whole (by simp only [List.length_cons, List.length_nil, List.length_append, ints_length, u8s_length, List.length_replicate, List.length_set, List.length_map, digs_length] <;> omega), wI (by omega), by omega, by omega, ptrE (by omega), Nat.zero_le _, ints_get' (by omega), bT c4, wI (by omega), by omega, by omega, ptrE (by omega), rfl, (by simp only [List.length_cons, List.length_nil, List.length_append, ints_length, u8s_length, List.length_replicate, List.length_set, List.length_map, digs_length] <;> omega), (store_ints [AV.bool (decide (am < 0))] (by rw [List.length_replicate]; omega)).trans (by rw [set_zero hpc (by omega)]; rfl), by omega, by omega, by omega, by omega, sliceE (by first | (split <;> omega) | (simp; omega) | simp) (by omega) (by omega), (by rw [flat1]; simp only [List.length_cons, List.length_nil, List.length_append, ints_length, u8s_length, List.length_replicate, List.length_set, List.length_map, digs_length] <;> omega), clear_ints [AV.bool (decide (am < 0))] (by simp only [List.length_cons, List.length_nil] <;> omega) (by rw [digs_length]; omega) (clear_digs hpc rfl), Nat.zero_le _, (by simp only [List.length_cons, List.length_nil, List.length_append, ints_length, u8s_length, List.length_replicate, List.length_set, List.length_map, digs_length] <;> omega), whole_cells (by simp only [List.length_cons, List.length_nil, List.length_append, ints_length, u8s_length, List.length_replicate, List.length_set, List.length_map, digs_length] <;> omega), Nat.zero_le _, (by simp only [List.length_cons, List.length_nil, List.length_append, ints_length, u8s_length, List.length_replicate, List.length_set, List.length_map, digs_length] <;> omega), whole_cells (by simp only [List.length_cons, List.length_nil, List.length_append, ints_length, u8s_length, List.length_replicate, List.length_set, List.length_map, digs_length] <;> omega), by simp only [renL, AV.ren, renL_ints, renL_u8s, renL_append], added_meets _ _ _ _ (digs_dig _ _) (digs_dig _ _) (digs_length _ _) (digs_length _ _) _ (add_same hb.1 (Int.le_of_lt hpp) (by omega)), by simp only [renL, AV.ren, renL_ints, renL_u8s, renL_append], by simp only [renL, AV.ren, renL_ints, renL_u8s, renL_append], nearest_meets (decide (am < 0)) (digs 88 (aV am ae / 10 ^ p * 10 ^ p + 10 ^ p)) (digs_length _ _) (digs_dig _ _), rfl, Nat.le_of_ble_eq_true rfl, rfl, trivial⟩
            (.inl rfl) (by kernel_rfl) ⟨Nat.zero_le _, Nat.le_of_ble_eq_true rfl, rfl, round_near hp ⟨by omega, by omega⟩ c1 (by rw [hup, if_pos ((digit_up hpc (by omega) hX).1 c4)]; rw [Int.add_mul, Int.one_mul]), Avoid.tuple (AvoidL.cons (Avoid.agg (AvoidL.cons (Avoid.int _ _ _) (AvoidL.cons (Avoid.int _ _ _) (AvoidL.nil _)))) (AvoidL.cons (Avoid.int _ _ _) (AvoidL.nil _))), trivial⟩
        · have hp : 40 - k = p := hp' (by omega)
          have hcc : 48 + k = c := hc (by omega)
          have hpc : p + c = 88 := by omega
          have hX := (aV88 c1).1
          have hpp := pow_pos' p
          have hb := round_bound (p := p) (by omega) c1
          have hlen := digs_length 88 (aV am ae)
          exact meets_of_exec (fn := Try.f28) 4 [.reg [(0, {nm := [0]}), (1, {nm := [1]})], .reg [(0, {val := some (AV.agg [AV.int .i64 am, AV.int .i64 ae])}), (1, {call := some ⟨[], [AV.agg [AV.int .i64 am, AV.int .i64 ae]], [], AV.bool (rightB am ae), []⟩, val := some (AV.bool true)}), (2, {val := some (AV.bool false)})], .reg [(1, {val := some (AV.bool false)}), (4, {val := some (AV.bool false)})], .reg [(0, {val := some (AV.agg [AV.int .i64 am, AV.int .i64 ae])}), (1, {call := some ⟨[], [AV.agg [AV.int .i64 am, AV.int .i64 ae]], [], AV.agg ((AV.bool (decide (am < 0))) :: (ints .u8 (digs 88 (aV am ae)))), []⟩, val := some (AV.agg ((AV.bool (decide (am < 0))) :: (ints .u8 (digs 88 (aV am ae)))))}), (2, {nm := [2], obj := some [AObj.cells ((AV.bool false) :: (ints .u8 (List.replicate 88 0))) 50]}), (3, {obj := some [AObj.cells ((AV.bool (decide (am < 0))) :: (ints .u8 (digs 88 (aV am ae)))) 50]})], .reg [(1, {val := some (AV.bool (decide (am < 0)))}), (2, {val := some (AV.agg ((AV.bool (decide (am < 0))) :: (ints .u8 (List.replicate 88 0))))}), (3, {nm := [3], obj := some [AObj.cells ((AV.bool false) :: (ints .u8 (List.replicate 88 0))) 50]}), (4, {obj := some [AObj.cells ((AV.bool (decide (am < 0))) :: (ints .u8 (List.replicate 88 0))) 50]})], .reg [(1, {val := some (AV.int .i64 ((c : Nat) : Int))})], .reg [(2, {val := some (AV.ptr 2 (c + 1))}), (3, {val := some (AV.int .u8 ((digs 88 (aV am ae)).getD c 0))}), (4, {val := some (AV.bool false)})], .reg [(2, {val := some (AV.slice 2 (c + 1) (88 - c) (88 - c))}), (3, {obj := some [AObj.cells ((AV.bool (decide (am < 0))) :: (ints .u8 (digs 88 (aV am ae / 10 ^ p * 10 ^ p)))) 50]})], .reg [(0, {val := some (AV.agg ((AV.bool (decide (am < 0))) :: (ints .u8 (digs 88 (aV am ae / 10 ^ p * 10 ^ p)))))}), (1, {val := some (AV.agg ((AV.bool (decide (am < 0))) :: (ints .u8 (List.replicate 88 0))))}), (2, {call := some ⟨[], [AV.agg ((AV.bool (decide (am < 0))) :: (ints .u8 (digs 88 (aV am ae / 10 ^ p * 10 ^ p)))), AV.agg ((AV.bool (decide (am < 0))) :: (ints .u8 (List.replicate 88 0)))], [], AV.agg ((AV.bool (decide (am < 0))) :: (ints .u8 (digs 88 (aV am ae / 10 ^ p * 10 ^ p + 0)))), []⟩, val := some (AV.agg ((AV.bool (decide (am < 0))) :: (ints .u8 (digs 88 (aV am ae / 10 ^ p * 10 ^ p + 0)))))}), (3, {call := some ⟨[], [AV.agg ((AV.bool (decide (am < 0))) :: (ints .u8 (digs 88 (aV am ae / 10 ^ p * 10 ^ p + 0))))], [], AV.tuple [AV.agg [AV.int .i64 ((nearM (decide (am < 0)) (digs 88 (aV am ae / 10 ^ p * 10 ^ p + 0))).1), AV.int .i64 ((nearM (decide (am < 0)) (digs 88 (aV am ae / 10 ^ p * 10 ^ p + 0))).2)], AV.int .i64 (nearE (digs 88 (aV am ae / 10 ^ p * 10 ^ p + 0)))], []⟩}), (6, {obj := some [AObj.cells [AV.int .i64 ((nearM (decide (am < 0)) (digs 88 (aV am ae / 10 ^ p * 10 ^ p + 0))).1), AV.int .i64 ((nearM (decide (am < 0)) (digs 88 (aV am ae / 10 ^ p * 10 ^ p + 0))).2)] 23]})]] [{val := some (AV.agg [AV.int .i64 ((nearM (decide (am < 0)) (digs 88 (aV am ae / 10 ^ p * 10 ^ p + 0))).1), AV.int .i64 ((nearM (decide (am < 0)) (digs 88 (aV am ae / 10 ^ p * 10 ^ p + 0))).2)])}, {}]
            (r := ⟨[0 ≤ 0,
                0 - 0 + 2 ≤ List.length [AV.int .i64 am, AV.int .i64 ae],
                List.take 2 (List.drop (0 - 0) [AV.int .i64 am, AV.int .i64 ae]) = [AV.int .i64 am, AV.int .i64 ae],
                [AV.agg [AV.int .i64 am, AV.int .i64 ae]] = renL [] [AV.agg [AV.int .i64 am, AV.int .i64 ae]],
                Meets Try.prog 30 [AV.agg [AV.int .i64 am, AV.int .i64 ae]] [] (AV.bool (rightB am ae)) [],
                AV.ren [] (AV.bool (rightB am ae)) = AV.bool true,
                AV.bool (!true) = AV.bool false,
                AV.bool (decide (k < (-9))) = AV.bool false,
                AV.bool (decide (k > 9)) = AV.bool false,
                0 ≤ 0,
                0 - 0 + 2 ≤ List.length [AV.int .i64 am, AV.int .i64 ae],
                List.take 2 (List.drop (0 - 0) [AV.int .i64 am, AV.int .i64 ae]) = [AV.int .i64 am, AV.int .i64 ae],
                [AV.agg [AV.int .i64 am, AV.int .i64 ae]] = renL [] [AV.agg [AV.int .i64 am, AV.int .i64 ae]],
                Meets Try.prog 33 [AV.agg [AV.int .i64 am, AV.int .i64 ae]] [] (AV.agg ((AV.bool (decide (am < 0))) :: (ints .u8 (digs 88 (aV am ae))))) [],
                AV.ren [] (AV.agg ((AV.bool (decide (am < 0))) :: (ints .u8 (digs 88 (aV am ae))))) = AV.agg ((AV.bool (decide (am < 0))) :: (ints .u8 (digs 88 (aV am ae)))),
                AObj.cells (zeroCellsA Try.prog 50) 50 = AObj.cells ((AV.bool false) :: (ints .u8 (List.replicate 88 0))) 50,
                ((AV.bool (decide (am < 0))) :: (ints .u8 (digs 88 (aV am ae))) : List AV).length = 89,
                0 + 89 ≤ List.length ((AV.bool false) :: (ints .u8 (List.replicate 88 0))),
                AObj.cells (List.take 0 ((AV.bool false) :: (ints .u8 (List.replicate 88 0))) ++ ((AV.bool (decide (am < 0))) :: (ints .u8 (digs 88 (aV am ae)))) ++ List.drop (0 + 89) ((AV.bool false) :: (ints .u8 (List.replicate 88 0)))) 50 = AObj.cells ((AV.bool (decide (am < 0))) :: (ints .u8 (digs 88 (aV am ae)))) 50,
                0 ≤ 0,
                ((AV.bool (decide (am < 0))) :: (ints .u8 (digs 88 (aV am ae))) : List AV)[0 - 0]? = some (AV.bool (decide (am < 0))),
                ([AV.bool (decide (am < 0))] : List AV).length = 1,
                0 + 1 ≤ ((zeroCellsA Try.prog 50) : List AV).length,
                AV.agg (List.take 0 (zeroCellsA Try.prog 50) ++ [AV.bool (decide (am < 0))] ++ List.drop 1 (zeroCellsA Try.prog 50)) = AV.agg ((AV.bool (decide (am < 0))) :: (ints .u8 (List.replicate 88 0))),
                AObj.cells (zeroCellsA Try.prog 50) 50 = AObj.cells ((AV.bool false) :: (ints .u8 (List.replicate 88 0))) 50,
                ((AV.bool (decide (am < 0))) :: (ints .u8 (List.replicate 88 0)) : List AV).length = 89,
                0 + 89 ≤ List.length ((AV.bool false) :: (ints .u8 (List.replicate 88 0))),
                AObj.cells (List.take 0 ((AV.bool false) :: (ints .u8 (List.replicate 88 0))) ++ ((AV.bool (decide (am < 0))) :: (ints .u8 (List.replicate 88 0))) ++ List.drop (0 + 89) ((AV.bool false) :: (ints .u8 (List.replicate 88 0)))) 50 = AObj.cells ((AV.bool (decide (am < 0))) :: (ints .u8 (List.replicate 88 0))) 50,
                AV.int .i64 (IntKind.i64.wrap (48 + k)) = AV.int .i64 ((c : Nat) : Int),
                0 ≤ ((c : Nat) : Int),
                ((c : Nat) : Int) < ((88 : Nat) : Int),
                AV.ptr 2 (1 + Int.toNat ((c : Nat) : Int) * 1) = AV.ptr 2 (c + 1),
                0 ≤ (c + 1),
                ((AV.bool (decide (am < 0))) :: (ints .u8 (digs 88 (aV am ae))) : List AV)[(c + 1) - 0]? = some (AV.int .u8 ((digs 88 (aV am ae)).getD c 0)),
                AV.bool (decide (((digs 88 (aV am ae)).getD c 0) ≥ 5)) = AV.bool false,
                0 ≤ (((c : Nat) : Int) : Int),
                ((Int.toNat (((c : Nat) : Int))) : Nat) ≤ 88,
                (88 : Nat) ≤ 88,
                (88 : Nat) ≤ 88,
                AV.slice 2 (if 88 = (Int.toNat (((c : Nat) : Int))) then 1 else 1 + (Int.toNat (((c : Nat) : Int))) * 1) (88 - (Int.toNat (((c : Nat) : Int)))) (88 - (Int.toNat (((c : Nat) : Int)))) = AV.slice 2 (c + 1) (88 - c) (88 - c),
                (c + 1) + List.length (List.flatten (List.replicate (88 - c) [AV.int .u8 0])) ≤ List.length ((AV.bool (decide (am < 0))) :: (ints .u8 (digs 88 (aV am ae)))),
                AObj.cells (List.take (c + 1) ((AV.bool (decide (am < 0))) :: (ints .u8 (digs 88 (aV am ae)))) ++ (List.flatten (List.replicate (88 - c) [AV.int .u8 0])) ++ List.drop ((c + 1) + List.length (List.flatten (List.replicate (88 - c) [AV.int .u8 0]))) ((AV.bool (decide (am < 0))) :: (ints .u8 (digs 88 (aV am ae))))) 50 = AObj.cells ((AV.bool (decide (am < 0))) :: (ints .u8 (digs 88 (aV am ae / 10 ^ p * 10 ^ p)))) 50,
                0 ≤ 0,
                0 - 0 + 89 ≤ List.length ((AV.bool (decide (am < 0))) :: (ints .u8 (digs 88 (aV am ae / 10 ^ p * 10 ^ p)))),
                List.take 89 (List.drop (0 - 0) ((AV.bool (decide (am < 0))) :: (ints .u8 (digs 88 (aV am ae / 10 ^ p * 10 ^ p))))) = (AV.bool (decide (am < 0))) :: (ints .u8 (digs 88 (aV am ae / 10 ^ p * 10 ^ p))),
                0 ≤ 0,
                0 - 0 + 89 ≤ List.length ((AV.bool (decide (am < 0))) :: (ints .u8 (List.replicate 88 0))),
                List.take 89 (List.drop (0 - 0) ((AV.bool (decide (am < 0))) :: (ints .u8 (List.replicate 88 0)))) = (AV.bool (decide (am < 0))) :: (ints .u8 (List.replicate 88 0)),
                [AV.agg ((AV.bool (decide (am < 0))) :: (ints .u8 (digs 88 (aV am ae / 10 ^ p * 10 ^ p)))), AV.agg ((AV.bool (decide (am < 0))) :: (ints .u8 (List.replicate 88 0)))] = renL [] [AV.agg ((AV.bool (decide (am < 0))) :: (ints .u8 (digs 88 (aV am ae / 10 ^ p * 10 ^ p)))), AV.agg ((AV.bool (decide (am < 0))) :: (ints .u8 (List.replicate 88 0)))],
                Meets Try.prog 60 [AV.agg ((AV.bool (decide (am < 0))) :: (ints .u8 (digs 88 (aV am ae / 10 ^ p * 10 ^ p)))), AV.agg ((AV.bool (decide (am < 0))) :: (ints .u8 (List.replicate 88 0)))] [] (AV.agg ((AV.bool (decide (am < 0))) :: (ints .u8 (digs 88 (aV am ae / 10 ^ p * 10 ^ p + 0))))) [],
                AV.ren [] (AV.agg ((AV.bool (decide (am < 0))) :: (ints .u8 (digs 88 (aV am ae / 10 ^ p * 10 ^ p + 0))))) = AV.agg ((AV.bool (decide (am < 0))) :: (ints .u8 (digs 88 (aV am ae / 10 ^ p * 10 ^ p + 0)))),
                [AV.agg ((AV.bool (decide (am < 0))) :: (ints .u8 (digs 88 (aV am ae / 10 ^ p * 10 ^ p + 0))))] = renL [] [AV.agg ((AV.bool (decide (am < 0))) :: (ints .u8 (digs 88 (aV am ae / 10 ^ p * 10 ^ p + 0))))],
                Meets Try.prog 32 [AV.agg ((AV.bool (decide (am < 0))) :: (ints .u8 (digs 88 (aV am ae / 10 ^ p * 10 ^ p + 0))))] [] (AV.tuple [AV.agg [AV.int .i64 ((nearM (decide (am < 0)) (digs 88 (aV am ae / 10 ^ p * 10 ^ p + 0))).1), AV.int .i64 ((nearM (decide (am < 0)) (digs 88 (aV am ae / 10 ^ p * 10 ^ p + 0))).2)], AV.int .i64 (nearE (digs 88 (aV am ae / 10 ^ p * 10 ^ p + 0)))]) [],
                ([AV.int .i64 ((nearM (decide (am < 0)) (digs 88 (aV am ae / 10 ^ p * 10 ^ p + 0))).1), AV.int .i64 ((nearM (decide (am < 0)) (digs 88 (aV am ae / 10 ^ p * 10 ^ p + 0))).2)] : List AV).length = 2,
                0 + 2 ≤ List.length [AV.int .i64 0, AV.int .i64 0],
                AObj.cells (List.take 0 [AV.int .i64 0, AV.int .i64 0] ++ [AV.int .i64 ((nearM (decide (am < 0)) (digs 88 (aV am ae / 10 ^ p * 10 ^ p + 0))).1), AV.int .i64 ((nearM (decide (am < 0)) (digs 88 (aV am ae / 10 ^ p * 10 ^ p + 0))).2)] ++ List.drop (0 + 2) [AV.int .i64 0, AV.int .i64 0]) 23 = AObj.cells [AV.int .i64 ((nearM (decide (am < 0)) (digs 88 (aV am ae / 10 ^ p * 10 ^ p + 0))).1), AV.int .i64 ((nearM (decide (am < 0)) (digs 88 (aV am ae / 10 ^ p * 10 ^ p + 0))).2)] 23],
              .ret, ⟨[some (AV.agg [AV.int .i64 am, AV.int .i64 ae]), some (AV.int .i64 k), some (AV.ptr 0 0), none, some (AV.ptr 1 0), some (AV.int .i64 (nearE (digs 88 (aV am ae / 10 ^ p * 10 ^ p + 0)))), some (AV.ptr 2 0), some (AV.ptr 3 0), some (AV.int .i64 ((c : Nat) : Int)), some (AV.agg [AV.int .i64 am, AV.int .i64 ae]), some (AV.bool true), some (AV.bool false), none, some (AV.int .i64 k), some (AV.bool false), some (AV.bool false), some (AV.int .i64 k), some (AV.bool false), some (AV.bool false), none, some (AV.agg [AV.int .i64 am, AV.int .i64 ae]), some (AV.agg ((AV.bool (decide (am < 0))) :: (ints .u8 (digs 88 (aV am ae))))), some (AV.ptr 2 0), some (AV.bool (decide (am < 0))), some (AV.agg ((AV.bool (decide (am < 0))) :: (ints .u8 (List.replicate 88 0)))), some (AV.int .i64 k), some (AV.int .i64 ((c : Nat) : Int)), some (AV.int .i64 ((c : Nat) : Int)), some (AV.ptr 2 1), some (AV.ptr 2 (c + 1)), some (AV.int .u8 ((digs 88 (aV am ae)).getD c 0)), some (AV.bool false), none, none, none, none, some (AV.ptr 2 1), some (AV.int .i64 ((c : Nat) : Int)), some (AV.slice 2 (c + 1) (88 - c) (88 - c)), some (AV.agg ((AV.bool (decide (am < 0))) :: (ints .u8 (digs 88 (aV am ae / 10 ^ p * 10 ^ p))))), some (AV.agg ((AV.bool (decide (am < 0))) :: (ints .u8 (List.replicate 88 0)))), some (AV.agg ((AV.bool (decide (am < 0))) :: (ints .u8 (digs 88 (aV am ae / 10 ^ p * 10 ^ p + 0))))), some (AV.tuple [AV.agg [AV.int .i64 ((nearM (decide (am < 0)) (digs 88 (aV am ae / 10 ^ p * 10 ^ p + 0))).1), AV.int .i64 ((nearM (decide (am < 0)) (digs 88 (aV am ae / 10 ^ p * 10 ^ p + 0))).2)], AV.int .i64 (nearE (digs 88 (aV am ae / 10 ^ p * 10 ^ p + 0)))]), some (AV.agg [AV.int .i64 ((nearM (decide (am < 0)) (digs 88 (aV am ae / 10 ^ p * 10 ^ p + 0))).1), AV.int .i64 ((nearM (decide (am < 0)) (digs 88 (aV am ae / 10 ^ p * 10 ^ p + 0))).2)]), some (AV.int .i64 (nearE (digs 88 (aV am ae / 10 ^ p * 10 ^ p + 0))))], [some (AObj.cells [AV.int .i64 am, AV.int .i64 ae] 23), some (AObj.cells [AV.int .i64 ((nearM (decide (am < 0)) (digs 88 (aV am ae / 10 ^ p * 10 ^ p + 0))).1), AV.int .i64 ((nearM (decide (am < 0)) (digs 88 (aV am ae / 10 ^ p * 10 ^ p + 0))).2)] 23), some (AObj.cells ((AV.bool (decide (am < 0))) :: (ints .u8 (digs 88 (aV am ae / 10 ^ p * 10 ^ p)))) 50), some (AObj.cells ((AV.bool (decide (am < 0))) :: (ints .u8 (List.replicate 88 0))) 50)]⟩, []⟩)
            (ob := [0 ≤ 0,
                0 - 0 + 2 ≤ List.length [AV.int .i64 ((nearM (decide (am < 0)) (digs 88 (aV am ae / 10 ^ p * 10 ^ p + 0))).1), AV.int .i64 ((nearM (decide (am < 0)) (digs 88 (aV am ae / 10 ^ p * 10 ^ p + 0))).2)],
                List.take 2 (List.drop (0 - 0) [AV.int .i64 ((nearM (decide (am < 0)) (digs 88 (aV am ae / 10 ^ p * 10 ^ p + 0))).1), AV.int .i64 ((nearM (decide (am < 0)) (digs 88 (aV am ae / 10 ^ p * 10 ^ p + 0))).2)]) = [AV.int .i64 ((nearM (decide (am < 0)) (digs 88 (aV am ae / 10 ^ p * 10 ^ p + 0))).1), AV.int .i64 ((nearM (decide (am < 0)) (digs 88 (aV am ae / 10 ^ p * 10 ^ p + 0))).2)],
                AV.tuple [AV.agg [AV.int .i64 ((nearM (decide (am < 0)) (digs 88 (aV am ae / 10 ^ p * 10 ^ p + 0))).1), AV.int .i64 ((nearM (decide (am < 0)) (digs 88 (aV am ae / 10 ^ p * 10 ^ p + 0))).2)], AV.int .i64 (nearE (digs 88 (aV am ae / 10 ^ p * 10 ^ p + 0)))] = AV.tuple [AV.agg [AV.int .i64 ((roundR am ae k).1), AV.int .i64 ((roundR am ae k).2.1)], AV.int .i64 ((roundR am ae k).2.2)],
                Avoid (fun n => decide (0 ≤ n)) (AV.tuple [AV.agg [AV.int .i64 ((roundR am ae k).1), AV.int .i64 ((roundR am ae k).2.1)], AV.int .i64 ((roundR am ae k).2.2)])])
            Try.func28 (by kernel_rfl) Try.call28 (by kernel_rfl)
            ⟨Nat.zero_le _, Nat.le_of_ble_eq_true rfl, rfl, rfl, right_meets am ae, boolT c1, rfl, bF c2, bF c3, Nat.zero_le _, Nat.le_of_ble_eq_true rfl, rfl, rfl, lay_meets am ae _ (by have := right_bounds c1; omega) (by have := right_bounds c1; omega) (digs_aV _ _), by simp only [renL, AV.ren, renL_ints, renL_u8s, renL_append], by kernel_rfl, (by simp only [List.length_cons, List.length_nil, List.length_append, ints_length, u8s_length, List.length_replicate, List.length_set, List.length_map, digs_length] <;> omega), (by simp only [List.length_cons, List.length_nil, List.length_append, ints_length, u8s_length, List.length_replicate, List.length_set, List.length_map, digs_length] <;> omega), store_whole (by simp only [List.length_cons, List.length_nil, List.length_append, ints_length, u8s_length, List.length_replicate, List.length_set, List.length_map, digs_length] <;> omega), Nat.zero_le _, rfl, rfl, Nat.le_of_ble_eq_true (by kernel_rfl), by kernel_rfl, by kernel_rfl, (by simp only [List.length_cons, List.length_nil, List.length_append, ints_length, u8s_length, List.length_replicate, List.length_set, List.length_map, digs_length] <;> omega), (by simp only [List.length_cons, List.length_nil, List.length_append, ints_length, u8s_length, List.length_replicate, List.length_set, List.length_map, digs_length] <;> omega), store_whole (by simp only [List.length_cons, List.length_nil, List.length_append, ints_length, u8s_length, List.length_replicate, List.length_set, List.length_map, digs_length] <;> omega), wI (by omega), by omega, by omega, ptrE (by omega), Nat.zero_le _, ints_get' (by omega), bF c4, by omega, by omega, by omega, by omega, sliceE (by first | (split <;> omega) | (simp; omega) | simp) (by omega) (by omega), (by rw [flat1]; simp only [List.length_cons, List.length_nil, List.length_append, ints_length, u8s_length, List.length_replicate, List.length_set, List.length_map, digs_length] <;> omega), clear_ints [AV.bool (decide (am < 0))] (by simp only [List.length_cons, List.length_nil] <;> omega) (by rw [digs_length]; omega) (clear_digs hpc rfl), Nat.zero_le _, (by simp only [List.length_cons, List.length_nil, List.length_append, ints_length, u8s_length, List.length_replicate, List.length_set, List.length_map, digs_length] <;> omega), whole_cells (by simp only [List.length_cons, List.length_nil, List.length_append, ints_length, u8s_length, List.length_replicate, List.length_set, List.length_map, digs_length] <;> omega), Nat.zero_le _, (by simp only [List.length_cons, List.length_nil, List.length_append, ints_length, u8s_length, List.length_replicate, List.length_set, List.length_map, digs_length] <;> omega), whole_cells (by simp only [List.length_cons, List.length_nil, List.length_append, ints_length, u8s_length, List.length_replicate, List.length_set, List.length_map, digs_length] <;> omega), by simp only [renL, AV.ren, renL_ints, renL_u8s, renL_append], added_meets _ _ _ _ (digs_dig _ _) (dig_zeros _) (digs_length _ _) List.length_replicate _ (by rw [zeros_digs]; exact add_same hb.1 (Int.le_refl 0) (by omega)), by simp only [renL, AV.ren, renL_ints, renL_u8s, renL_append], by simp only [renL, AV.ren, renL_ints, renL_u8s, renL_append], nearest_meets (decide (am < 0)) (digs 88 (aV am ae / 10 ^ p * 10 ^ p + 0)) (digs_length _ _) (digs_dig _ _), rfl, Nat.le_of_ble_eq_true rfl, rfl, trivial⟩
            (.inl rfl) (by kernel_rfl) ⟨Nat.zero_le _, Nat.le_of_ble_eq_true rfl, rfl, round_near hp ⟨by omega, by omega⟩ c1 (by rw [hup, if_neg (fun g => c4 ((digit_up hpc (by omega) hX).2 g))]; rw [Int.add_zero]), Avoid.tuple (AvoidL.cons (Avoid.agg (AvoidL.cons (Avoid.int _ _ _) (AvoidL.cons (Avoid.int _ _ _) (AvoidL.nil _)))) (AvoidL.cons (Avoid.int _ _ _) (AvoidL.nil _))), trivial⟩
  · exact meets_of_exec (fn := Try.f28) 4 [.reg [(0, {nm := [0]}), (1, {nm := [1]})], .reg [(0, {val := some (AV.agg [AV.int .i64 am, AV.int .i64 ae])}), (1, {call := some ⟨[], [AV.agg [AV.int .i64 am, AV.int .i64 ae]], [], AV.bool (rightB am ae), []⟩, val := some (AV.bool false)}), (2, {val := some (AV.bool true)})], .reg [(1, {obj := some [AObj.cells [AV.int .i64 0, AV.int .i64 0] 23]})]] [{val := some (AV.agg [AV.int .i64 0, AV.int .i64 0])}, {}]
      (r := ⟨[0 ≤ 0,
          0 - 0 + 2 ≤ List.length [AV.int .i64 am, AV.int .i64 ae],
          List.take 2 (List.drop (0 - 0) [AV.int .i64 am, AV.int .i64 ae]) = [AV.int .i64 am, AV.int .i64 ae],
          [AV.agg [AV.int .i64 am, AV.int .i64 ae]] = renL [] [AV.agg [AV.int .i64 am, AV.int .i64 ae]],
          Meets Try.prog 30 [AV.agg [AV.int .i64 am, AV.int .i64 ae]] [] (AV.bool (rightB am ae)) [],
          AV.ren [] (AV.bool (rightB am ae)) = AV.bool false,
          AV.bool (!false) = AV.bool true,
          ([AV.int .i64 0, AV.int .i64 0] : List AV).length = 2,
          0 + 2 ≤ List.length [AV.int .i64 0, AV.int .i64 0],
          AObj.cells (List.take 0 [AV.int .i64 0, AV.int .i64 0] ++ [AV.int .i64 0, AV.int .i64 0] ++ List.drop (0 + 2) [AV.int .i64 0, AV.int .i64 0]) 23 = AObj.cells [AV.int .i64 0, AV.int .i64 0] 23],
        .ret, ⟨[some (AV.agg [AV.int .i64 am, AV.int .i64 ae]), some (AV.int .i64 k), some (AV.ptr 0 0), none, some (AV.ptr 1 0), some (AV.int .i64 10), none, none, none, some (AV.agg [AV.int .i64 am, AV.int .i64 ae]), some (AV.bool false), some (AV.bool true), some (AV.agg [AV.int .i64 0, AV.int .i64 0]), none, none, none, none, none, none, none, none, none, none, none, none, none, none, none, none, none, none, none, none, none, none, none, none, none, none, none, none, none, none, none, none], [some (AObj.cells [AV.int .i64 am, AV.int .i64 ae] 23), some (AObj.cells [AV.int .i64 0, AV.int .i64 0] 23), none, none]⟩, []⟩)
      (ob := [0 ≤ 0,
          0 - 0 + 2 ≤ List.length [AV.int .i64 0, AV.int .i64 0],
          List.take 2 (List.drop (0 - 0) [AV.int .i64 0, AV.int .i64 0]) = [AV.int .i64 0, AV.int .i64 0],
          AV.tuple [AV.agg [AV.int .i64 0, AV.int .i64 0], AV.int .i64 10] = AV.tuple [AV.agg [AV.int .i64 ((roundR am ae k).1), AV.int .i64 ((roundR am ae k).2.1)], AV.int .i64 ((roundR am ae k).2.2)],
          Avoid (fun n => decide (0 ≤ n)) (AV.tuple [AV.agg [AV.int .i64 ((roundR am ae k).1), AV.int .i64 ((roundR am ae k).2.1)], AV.int .i64 ((roundR am ae k).2.2)])])
      Try.func28 (by kernel_rfl) Try.call28 (by kernel_rfl)
      ⟨Nat.zero_le _, Nat.le_of_ble_eq_true rfl, rfl, rfl, right_meets am ae, boolF c1, rfl, rfl, Nat.le_of_ble_eq_true rfl, rfl, trivial⟩
      (.inl rfl) (by kernel_rfl) ⟨Nat.zero_le _, Nat.le_of_ble_eq_true rfl, rfl, by first | (simp [roundR, c1, bad3]; done) | (rw [roundR, if_pos c1, if_pos (by omega)]), Avoid.tuple (AvoidL.cons (Avoid.agg (AvoidL.cons (Avoid.int _ _ _) (AvoidL.cons (Avoid.int _ _ _) (AvoidL.nil _)))) (AvoidL.cons (Avoid.int _ _ _) (AvoidL.nil _))), trivial⟩

end Go.Proofs.Ytabgphldbgdbpaa
