/- Products and quotients are as the document's own answers. -/
import Derived.Test.YtmgiefeggkikcaaBrA
import Derived.Test.YtmgiefeggkikcaaRfK
set_option linter.unusedVariables false
set_option linter.unusedSimpArgs false
namespace Go.Proofs.Ytmgiefeggkikcaa
open Go Sx Rf Dc Rr

theorem pow_split (a b : Nat) : 10 ^ (a + b) = 10 ^ a * 10 ^ b := Nat.pow_add 10 a b
theorem mul_near (am ae bm be : Int) (ha : rightB am ae = true) (hb : rightB bm be = true) :
    mulR am ae bm be = ((nearD (negB am bm) ((am.natAbs * 10 ^ (ae + 9).toNat) * (bm.natAbs * 10 ^ (be + 9).toNat)) (1 * 10 ^ 18)).1, (nearD (negB am bm) ((am.natAbs * 10 ^ (ae + 9).toNat) * (bm.natAbs * 10 ^ (be + 9).toNat)) (1 * 10 ^ 18)).2, nearX ((am.natAbs * 10 ^ (ae + 9).toNat) * (bm.natAbs * 10 ^ (be + 9).toNat)) (1 * 10 ^ 18)) := by
  obtain ⟨⟨a1, a2⟩, a3, a4⟩ := right_bounds ha
  obtain ⟨⟨b1, b2⟩, b3, b4⟩ := right_bounds hb
  have hV : mulV am ae bm be = (((am.natAbs * bm.natAbs * 10 ^ (ae + be + 40).toNat) / 1 : Nat) : Int) := by
    unfold mulV aV
    rw [Nat.div_one]
    push_cast
    rw [Int.mul_assoc, Int.mul_comm (10 ^ _), ← Int.mul_assoc]
  have h0 : am.natAbs * bm.natAbs < 10 ^ 30 := by
    have x1 : am.natAbs ≤ 10 ^ 15 - 1 := by omega
    have x2 : bm.natAbs ≤ 10 ^ 15 - 1 := by omega
    have := Nat.mul_le_mul x1 x2
    have e : (10 ^ 15 - 1) * (10 ^ 15 - 1) < 10 ^ 30 := by decide
    omega
  have hlt : am.natAbs * bm.natAbs * 10 ^ (ae + be + 40).toNat / 1 < 10 ^ 88 := by
    rw [Nat.div_one]
    have y1 : (10 : Nat) ^ (ae + be + 40).toNat ≤ 10 ^ 58 := Nat.pow_le_pow_right (by decide) (by omega)
    calc am.natAbs * bm.natAbs * 10 ^ (ae + be + 40).toNat ≤ am.natAbs * bm.natAbs * 10 ^ 58 := Nat.mul_le_mul_left _ y1
      _ < 10 ^ 30 * 10 ^ 58 := Nat.mul_lt_mul_of_pos_right h0 (Nat.pow_pos (by decide))
      _ = 10 ^ 88 := by rw [← Nat.pow_add]
  have key := near_bridge (ds := digs 88 (mulV am ae bm be)) (N := (am.natAbs * 10 ^ (ae + 9).toNat) * (bm.natAbs * 10 ^ (be + 9).toNat)) (M := 1 * 10 ^ 18) (negB am bm) (fun j hj => by
    rw [hV, show 57 - j = 88 - (31 + j) by omega, even_rnd (g := 1) (by decide) (by omega) (by omega) (Nat.one_dvd _) (Nat.one_dvd _) (by decide) hlt]
    congr 1
    refine rnd_ratio (by rw [Nat.one_mul]; exact Nat.pow_pos (by decide)) (Nat.mul_pos (Nat.mul_pos (by decide) (Nat.pow_pos (by decide))) (Nat.pow_pos (by decide))) ?_
    unfold nE dE
    rw [show am.natAbs * bm.natAbs * 10 ^ (ae + be + 40).toNat * (1 * 10 ^ 18 * 10 ^ ((j : Int) - 9).toNat) = am.natAbs * bm.natAbs * 10 ^ ((ae + be + 40).toNat + (18 + ((j : Int) - 9).toNat)) by
      rw [Nat.one_mul, ← Nat.pow_add, Nat.mul_assoc (am.natAbs * bm.natAbs), ← Nat.pow_add]]
    rw [show am.natAbs * 10 ^ (ae + 9).toNat * (bm.natAbs * 10 ^ (be + 9).toNat) * 10 ^ (-((j : Int) - 9)).toNat * (1 * 10 ^ (31 + j)) = am.natAbs * bm.natAbs * 10 ^ ((ae + 9).toNat + (be + 9).toNat + (-((j : Int) - 9)).toNat + (31 + j)) by
      rw [Nat.one_mul, Nat.mul_mul_mul_comm, ← Nat.pow_add, Nat.mul_assoc (am.natAbs * bm.natAbs), ← Nat.pow_add, Nat.mul_assoc (am.natAbs * bm.natAbs), ← Nat.pow_add]]
    congr 2
    omega)
  rw [← mulR_eq]
  unfold tellR
  rw [ha, hb, Bool.and_true, if_pos rfl]
  have hu : unlikeB am bm = negB am bm := by
    unfold unlikeB negB
    cases decide (am < 0) <;> cases decide (bm < 0) <;> rfl
  rw [hu, key.1, key.2]

theorem div_near (am ae bm be : Int) (ha : rightB am ae = true) (hb : rightB bm be = true) (h0 : bm ≠ 0) :
    divR am ae bm be = ((nearD (negB am bm) (am.natAbs * 10 ^ (ae + 9).toNat) (bm.natAbs * 10 ^ (be + 9).toNat)).1, (nearD (negB am bm) (am.natAbs * 10 ^ (ae + 9).toNat) (bm.natAbs * 10 ^ (be + 9).toNat)).2, nearX (am.natAbs * 10 ^ (ae + 9).toNat) (bm.natAbs * 10 ^ (be + 9).toNat)) := by
  obtain ⟨⟨a1, a2⟩, a3, a4⟩ := right_bounds ha
  obtain ⟨⟨b1, b2⟩, b3, b4⟩ := right_bounds hb
  have hb0 : 0 < bm.natAbs := by omega
  have hV : quoV am ae bm be = (((am.natAbs * 10 ^ (ae - be + 40).toNat) / bm.natAbs : Nat) : Int) := by
    unfold quoV; push_cast; rfl
  have hlt : am.natAbs * 10 ^ (ae - be + 40).toNat / bm.natAbs < 10 ^ 88 := by
    have y1 : (10 : Nat) ^ (ae - be + 40).toNat ≤ 10 ^ 58 := Nat.pow_le_pow_right (by decide) (by omega)
    have x1 : am.natAbs ≤ 10 ^ 15 := by omega
    have := Nat.mul_le_mul x1 y1
    have e : (10 : Nat) ^ 15 * 10 ^ 58 < 10 ^ 88 := by rw [← Nat.pow_add]; exact Nat.pow_lt_pow_right (by decide) (by decide)
    have := Nat.div_le_self (am.natAbs * 10 ^ (ae - be + 40).toNat) bm.natAbs
    omega
  have key := near_bridge (ds := digs 88 (quoV am ae bm be)) (N := am.natAbs * 10 ^ (ae + 9).toNat) (M := bm.natAbs * 10 ^ (be + 9).toNat) (negB am bm) (fun j hj => by
    rw [hV, show 57 - j = 88 - (31 + j) by omega, even_rnd (g := 10 ^ 22) hb0 (by omega) (by omega)
      (Nat.dvd_mul_left_of_dvd (Nat.pow_dvd_pow 10 (by omega)) _)
      (Nat.dvd_mul_left_of_dvd (Nat.dvd_mul_left_of_dvd (Nat.pow_dvd_pow 10 (by omega)) _) _)
      (by have : bm.natAbs ≤ 10 ^ 15 := by omega
          exact Nat.le_trans this (Nat.pow_le_pow_right (by decide) (by decide))) hlt]
    congr 1
    refine rnd_ratio (Nat.mul_pos hb0 (Nat.pow_pos (by decide))) (Nat.mul_pos (Nat.mul_pos hb0 (Nat.pow_pos (by decide))) (Nat.pow_pos (by decide))) ?_
    unfold nE dE
    rw [show am.natAbs * 10 ^ (ae - be + 40).toNat * (bm.natAbs * 10 ^ (be + 9).toNat * 10 ^ ((j : Int) - 9).toNat) = am.natAbs * bm.natAbs * 10 ^ ((ae - be + 40).toNat + ((be + 9).toNat + ((j : Int) - 9).toNat)) by
      rw [Nat.mul_assoc bm.natAbs, ← Nat.pow_add, Nat.mul_mul_mul_comm, ← Nat.pow_add]]
    rw [show am.natAbs * 10 ^ (ae + 9).toNat * 10 ^ (-((j : Int) - 9)).toNat * (bm.natAbs * 10 ^ (31 + j)) = am.natAbs * bm.natAbs * 10 ^ ((ae + 9).toNat + (-((j : Int) - 9)).toNat + (31 + j)) by
      rw [Nat.mul_assoc am.natAbs, ← Nat.pow_add, Nat.mul_mul_mul_comm, ← Nat.pow_add]]
    congr 2
    omega)
  rw [← divR_eq h0]
  unfold tellR
  rw [ha, hb, Bool.and_true, if_pos rfl]
  have hu : unlikeB am bm = negB am bm := by
    unfold unlikeB negB
    cases decide (am < 0) <;> cases decide (bm < 0) <;> rfl
  rw [hu, key.1, key.2]

end Go.Proofs.Ytmgiefeggkikcaa
