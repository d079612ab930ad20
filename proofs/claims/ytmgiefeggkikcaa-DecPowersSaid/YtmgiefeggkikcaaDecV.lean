/- The nearest decimal: plain mathematics. -/
import Derived.Test.YtmgiefeggkikcaaDecA
set_option linter.unusedVariables false
set_option linter.unusedSimpArgs false
set_option maxRecDepth 20000
namespace Go.Proofs.Ytmgiefeggkikcaa.Dc

/-- A number by ten to p, rounded to a whole number, of two as near the even one. -/
def hev (X : Int) (p : Nat) : Int := if 10 ^ p < 2 * (X % 10 ^ p) ∨ (2 * (X % 10 ^ p) = 10 ^ p ∧ X / 10 ^ p % 2 = 1) then X / 10 ^ p + 1 else X / 10 ^ p

theorem divmod (X P : Int) (hP : 0 < P) : X = X / P * P + X % P ∧ 0 ≤ X % P ∧ X % P < P :=
  ⟨by have := Int.mul_ediv_add_emod X P; rw [Int.mul_comm] at this; omega, Int.emod_nonneg _ (by omega), Int.emod_lt_of_pos _ hP⟩

theorem hev_range (X : Int) (p : Nat) : X / 10 ^ p ≤ hev X p ∧ hev X p ≤ X / 10 ^ p + 1 := by unfold hev; split <;> omega

/-- It is not further off than a half. -/
theorem hev_spec (X : Int) (p : Nat) : 2 * (hev X p * 10 ^ p) - 10 ^ p ≤ 2 * X ∧ 2 * X ≤ 2 * (hev X p * 10 ^ p) + 10 ^ p := by
  obtain ⟨h1, h2, h3⟩ := divmod X (10 ^ p) (pow_pos' p)
  unfold hev
  generalize hP : (10 : Int) ^ p = P at *
  generalize X % P = r at *
  generalize hq : X / P = q at *
  split
  · rw [Int.add_mul]
    generalize q * P = z at *
    omega
  · generalize q * P = z at *
    omega

theorem hev_exact {N : Int} {p : Nat} : hev (N * 10 ^ p) p = N := by
  have hp := pow_pos' p
  unfold hev
  rw [Int.mul_emod_left, Int.mul_ediv_cancel _ (by omega)]
  rw [if_neg (by omega)]

theorem hev_exact_lt {N : Int} {p q : Nat} (h : p ≤ q) : hev (N * 10 ^ q) p = N * 10 ^ (q - p) := by
  have e : N * 10 ^ q = N * 10 ^ (q - p) * 10 ^ p := by rw [Int.mul_assoc, ← Int.pow_add]; congr 2; omega
  rw [e, hev_exact]

theorem hev_nonneg {X : Int} (h : 0 ≤ X) (p : Nat) : 0 ≤ hev X p := by
  have := (hev_range X p).1
  have h2 : 0 ≤ X / 10 ^ p := Int.ediv_nonneg h (Int.le_of_lt (pow_pos' p))
  omega

theorem hev_mono {X Y : Int} (h : X ≤ Y) (p : Nat) : hev X p ≤ hev Y p := by
  have hd : X / 10 ^ p ≤ Y / 10 ^ p := Int.ediv_le_ediv (pow_pos' p) h
  rcases Int.lt_or_le (X / 10 ^ p) (Y / 10 ^ p) with g | g
  · have := hev_range X p; have := hev_range Y p; omega
  · have e : X / 10 ^ p = Y / 10 ^ p := by omega
    obtain ⟨a1, a2, a3⟩ := divmod X (10 ^ p) (pow_pos' p)
    obtain ⟨b1, b2, b3⟩ := divmod Y (10 ^ p) (pow_pos' p)
    unfold hev
    rw [e] at a1 ⊢
    generalize hP : (10 : Int) ^ p = P at *
    generalize X % P = r at *
    generalize Y % P = s at *
    generalize hq : Y / P = q at *
    have hrs : r ≤ s := by omega
    split
    · rw [if_pos (by omega)]; omega
    · split <;> omega

theorem hev_step {X : Int} {p : Nat} (h : 999999999999999 < hev X p) : 100000000000000 ≤ hev X (p + 1) := by
  have h1 := (hev_spec X p).1
  have h2 := (hev_spec X (p + 1)).2
  have hp := pow_pos' p
  rw [Int.pow_succ] at h2
  generalize hP : (10 : Int) ^ p = P at *
  have h3 : 1000000000000000 * P ≤ hev X p * P := Int.mul_le_mul_of_nonneg_right (by omega) (by omega)
  rcases Int.lt_or_le (hev X (p + 1)) 100000000000000 with g | g
  · exfalso
    have h4 : hev X (p + 1) * (P * 10) ≤ 99999999999999 * (P * 10) := Int.mul_le_mul_of_nonneg_right (by omega) (by omega)
    omega
  · exact g

/-- The places, one by one. -/
def goV (X : Int) : Nat → Nat → Option (Int × Int)
  | 0, _ => none
  | f + 1, j => if hev X (31 + j) ≤ 999999999999999 then some (hev X (31 + j), (j : Int) - 9) else goV X f (j + 1)

theorem goV_some {X : Int} : ∀ (f j : Nat) (N e : Int), goV X f j = some (N, e) →
    ∃ i : Nat, j ≤ i ∧ i < j + f ∧ N = hev X (31 + i) ∧ e = (i : Int) - 9 ∧ N ≤ 999999999999999 ∧ ∀ k, j ≤ k → k < i → 999999999999999 < hev X (31 + k)
  | 0, j, N, e, h => by cases h
  | f + 1, j, N, e, h => by
    rw [goV] at h
    split at h
    · rename_i hc
      simp only [Option.some.injEq, Prod.mk.injEq] at h
      obtain ⟨rfl, rfl⟩ := h
      exact ⟨j, Nat.le_refl _, by omega, rfl, rfl, hc, fun k h1 h2 => absurd h1 (by omega)⟩
    · rename_i hc
      obtain ⟨i, h1, h2, h3, h4, h5, h6⟩ := goV_some f (j + 1) N e h
      refine ⟨i, by omega, by omega, h3, h4, h5, fun k k1 k2 => ?_⟩
      by_cases hk : k = j
      · subst hk; omega
      · exact h6 k (by omega) k2
theorem goV_none {X : Int} : ∀ (f j : Nat), goV X f j = none → ∀ k, j ≤ k → k < j + f → 999999999999999 < hev X (31 + k)
  | 0, j, h, k, h1, h2 => by omega
  | f + 1, j, h, k, h1, h2 => by
    rw [goV] at h
    split at h
    · cases h
    · rename_i hc
      by_cases hk : k = j
      · subst hk; omega
      · exact goV_none f (j + 1) h k (by omega) (by omega)
theorem goV_at {X : Int} {i : Nat} (h1 : hev X (31 + i) ≤ 999999999999999) (h0 : ∀ k, k < i → 999999999999999 < hev X (31 + k)) : ∀ (f j : Nat), j ≤ i → i < j + f → goV X f j = some (hev X (31 + i), (i : Int) - 9)
  | 0, j, h, h2 => by omega
  | f + 1, j, h, h2 => by
    rw [goV]
    by_cases e : j = i
    · subst e; rw [if_pos h1]
    · rw [if_neg (by have := h0 j (by omega); omega)]
      exact goV_at h1 h0 f (j + 1) (by omega) (by omega)
theorem goV_hit {X : Int} {i : Nat} (hi : i < 19) (h1 : hev X (31 + i) ≤ 999999999999999) : ∃ N e, goV X 19 0 = some (N, e) ∧ e ≤ (i : Int) - 9 := by
  cases h : goV X 19 0 with
  | none => have := goV_none 19 0 h i (by omega) (by omega); omega
  | some q =>
    obtain ⟨N, e⟩ := q
    obtain ⟨k, a1, a2, a3, a4, a5, a6⟩ := goV_some 19 0 N e h
    refine ⟨N, e, rfl, ?_⟩
    rcases Nat.lt_or_ge i k with g | g
    · have := a6 i (by omega) g; omega
    · omega

/-- What is greater has a place that is not less. -/
theorem goV_mono {X Y : Int} (h : X ≤ Y) (h0 : 0 ≤ X) {N e N' e' : Int} (hx : goV X 19 0 = some (N, e)) (hy : goV Y 19 0 = some (N', e')) :
    N * 10 ^ (e + 40).toNat ≤ N' * 10 ^ (e' + 40).toNat := by
  obtain ⟨i, a1, a2, a3, a4, a5, a6⟩ := goV_some 19 0 N e hx
  obtain ⟨k, b1, b2, b3, b4, b5, b6⟩ := goV_some 19 0 N' e' hy
  subst a3; subst a4; subst b3; subst b4
  rw [show ((i : Int) - 9 + 40).toNat = 31 + i by omega, show ((k : Int) - 9 + 40).toNat = 31 + k by omega]
  rcases Nat.lt_trichotomy i k with g | g | g
  · obtain ⟨m, rfl⟩ : ∃ m, k = m + 1 := ⟨k - 1, by omega⟩
    have h3 := hev_step (b6 m (by omega) (by omega))
    have h4 : hev X (31 + i) * 10 ^ (31 + i) ≤ 1000000000000000 * 10 ^ (31 + i) := Int.mul_le_mul_of_nonneg_right (by omega) (Int.le_of_lt (pow_pos' _))
    have h5 : (100000000000000 : Int) * 10 ^ (31 + (m + 1)) ≤ hev Y (31 + (m + 1)) * 10 ^ (31 + (m + 1)) := Int.mul_le_mul_of_nonneg_right (by omega) (Int.le_of_lt (pow_pos' _))
    have h6 : (1000000000000000 : Int) * 10 ^ (31 + i) ≤ 100000000000000 * 10 ^ (31 + (m + 1)) := by
      rw [show (31 + (m + 1)) = (31 + m) + 1 by omega, Int.pow_succ]
      have := pow_mono (show 31 + i ≤ 31 + m by omega)
      omega
    omega
  · subst g
    exact Int.mul_le_mul_of_nonneg_right (hev_mono h _) (Int.le_of_lt (pow_pos' _))
  · have h7 := a6 k (by omega) g
    have := hev_mono h (31 + k)
    omega
theorem goV_none_mono {X Y : Int} (h : X ≤ Y) (hx : goV X 19 0 = none) : goV Y 19 0 = none := by
  cases hy : goV Y 19 0 with
  | none => rfl
  | some q =>
    obtain ⟨N, e⟩ := q
    obtain ⟨i, a1, a2, a3, a4, a5, a6⟩ := goV_some 19 0 N e hy
    have := goV_none 19 0 hx i (by omega) (by omega)
    have := hev_mono h (31 + i)
    omega

end Go.Proofs.Ytmgiefeggkikcaa.Dc
