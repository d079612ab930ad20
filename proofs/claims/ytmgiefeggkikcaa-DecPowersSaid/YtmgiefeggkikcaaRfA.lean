/- Whole numbers as rows of digits, the least one first. -/
import Derived.Test.YtmgiefeggkikcaaSx2
set_option linter.unusedVariables false
set_option linter.unusedSimpArgs false
namespace Go.Proofs.Ytmgiefeggkikcaa.Rf
open Go Sx

/-- So many digits of a number. -/
def dN (i n : Nat) : List Int := (List.range i).map fun j => ((n / 10 ^ j % 10 : Nat) : Int)
/-- How many digits a number has. -/
def nd : Nat → Nat
  | 0 => 0
  | n + 1 => nd ((n + 1) / 10) + 1
decreasing_by omega
/-- Its digits. -/
def dg (n : Nat) : List Int := dN (nd n) n

theorem nd_zero : nd 0 = 0 := by unfold nd; rfl
theorem nd_pos {n : Nat} (h : 0 < n) : nd n = nd (n / 10) + 1 := by
  obtain ⟨m, rfl⟩ : ∃ m, n = m + 1 := ⟨n - 1, by omega⟩
  rw [nd]
theorem dN_length {i n : Nat} : (dN i n).length = i := by simp [dN]
theorem dg_length {n : Nat} : (dg n).length = nd n := dN_length
theorem dN_zero {n : Nat} : dN 0 n = [] := rfl
theorem dN_succ {i n : Nat} : dN (i + 1) n = dN i n ++ [((n / 10 ^ i % 10 : Nat) : Int)] := by
  simp [dN, List.range_succ]
theorem dN_take {i j n : Nat} (h : i ≤ j) : (dN j n).take i = dN i n := by
  simp only [dN, ← List.map_take, List.take_range, Nat.min_eq_left h]
theorem dN_getD {i j n : Nat} (h : j < i) : (dN i n).getD j 0 = ((n / 10 ^ j % 10 : Nat) : Int) := by
  simp [dN, List.getD, h]
theorem dN_out {i j n : Nat} (h : i ≤ j) : (dN i n).getD j 0 = 0 := by
  simp [dN, List.getD, h]
theorem lt_nd : ∀ (n : Nat), n < 10 ^ nd n := by
  intro n
  induction n using Nat.strongRecOn with
  | ind n ih =>
    rcases Nat.eq_zero_or_pos n with rfl | h
    · rw [nd_zero]; decide
    · have := ih (n / 10) (by omega)
      rw [nd_pos h, Nat.pow_succ]; omega
theorem nd_le {n k : Nat} (h : n < 10 ^ k) : nd n ≤ k := by
  induction k generalizing n with
  | zero => have : n = 0 := by omega
            subst this; rw [nd_zero]; exact Nat.le_refl _
  | succ k ih =>
    rcases Nat.eq_zero_or_pos n with rfl | h0
    · rw [nd_zero]; omega
    · rw [nd_pos h0]
      have := ih (n := n / 10) (by rw [Nat.pow_succ] at h; omega)
      omega
theorem nd_lt {n k : Nat} (h : 10 ^ k ≤ n) : k < nd n := by
  rcases Nat.lt_or_ge k (nd n) with h1 | h1
  · exact h1
  · have := lt_nd n
    have := Nat.pow_le_pow_right (n := 10) (by decide) h1
    omega
theorem le_of_lt_nd {n k : Nat} (h : k < nd n) : 10 ^ k ≤ n := by
  rcases Nat.lt_or_ge n (10 ^ k) with h1 | h1
  · have := nd_le h1; omega
  · exact h1
theorem nd_mono {a b : Nat} (h : a ≤ b) : nd a ≤ nd b := nd_le (Nat.lt_of_le_of_lt h (lt_nd b))
theorem dg_zero : dg 0 = [] := by simp [dg, nd_zero, dN]
theorem dg_getD {n j : Nat} : (dg n).getD j 0 = ((n / 10 ^ j % 10 : Nat) : Int) := by
  rcases Nat.lt_or_ge j (nd n) with h | h
  · exact dN_getD h
  · have h1 := lt_nd n
    have h2 := Nat.pow_le_pow_right (n := 10) (by decide) h
    rw [dg, dN_out h, Nat.div_eq_of_lt (by omega)]; rfl
/-- The digits of which the highest are none. -/
theorem dN_trim {i n : Nat} (h : n < 10 ^ i) : (dN i n).take (nd n) = dg n := dN_take (nd_le h)
theorem div_pow_succ {n i : Nat} : n / 10 ^ (i + 1) = n / 10 ^ i / 10 := by rw [Nat.pow_succ, Nat.div_div_eq_div_mul]
theorem mod_pow_succ {n i : Nat} : n % 10 ^ (i + 1) = n % 10 ^ i + 10 ^ i * (n / 10 ^ i % 10) := by rw [Nat.pow_succ, Nat.mod_mul]
theorem nd_add {a b : Nat} : nd (a + b) ≤ max (nd a) (nd b) + 1 := by
  apply nd_le
  have h1 := lt_nd a
  have h2 := lt_nd b
  have h3 := Nat.pow_le_pow_right (n := 10) (by decide) (Nat.le_max_left (nd a) (nd b))
  have h4 := Nat.pow_le_pow_right (n := 10) (by decide) (Nat.le_max_right (nd a) (nd b))
  rw [Nat.pow_succ]; omega

/-! ### sums -/
def carryP (a b i : Nat) : Nat := (a % 10 ^ i + b % 10 ^ i) / 10 ^ i
theorem carryP_zero {a b : Nat} : carryP a b 0 = 0 := by simp [carryP]; omega
theorem carryP_le {a b i : Nat} : carryP a b i ≤ 1 := by
  unfold carryP
  have hp : 0 < 10 ^ i := Nat.pow_pos (by decide)
  have h1 := Nat.mod_lt a hp
  have h2 := Nat.mod_lt b hp
  have : (a % 10 ^ i + b % 10 ^ i) / 10 ^ i < 2 := by rw [Nat.div_lt_iff_lt_mul hp]; omega
  omega
theorem plus_step {a b i : Nat} : (a / 10 ^ i % 10 + b / 10 ^ i % 10 + carryP a b i) % 10 = (a + b) / 10 ^ i % 10 ∧ (a / 10 ^ i % 10 + b / 10 ^ i % 10 + carryP a b i) / 10 = carryP a b (i + 1) := by
  have hp : 0 < 10 ^ i := Nat.pow_pos (by decide)
  constructor
  · have h : (a + b) / 10 ^ i = a / 10 ^ i + b / 10 ^ i + carryP a b i := by
      unfold carryP
      rw [Nat.add_div hp]
      have h1 := Nat.mod_lt a hp
      have h2 := Nat.mod_lt b hp
      split
      · rename_i hh
        have : (a % 10 ^ i + b % 10 ^ i) / 10 ^ i = 1 := by
          rw [Nat.div_eq_iff hp]; omega
        omega
      · rename_i hh
        have : (a % 10 ^ i + b % 10 ^ i) / 10 ^ i = 0 := Nat.div_eq_of_lt (by omega)
        omega
    rw [h]; omega
  · unfold carryP
    rw [mod_pow_succ, mod_pow_succ, Nat.pow_succ, ← Nat.div_div_eq_div_mul]
    congr 1
    have e : a % 10 ^ i + 10 ^ i * (a / 10 ^ i % 10) + (b % 10 ^ i + 10 ^ i * (b / 10 ^ i % 10)) = (a % 10 ^ i + b % 10 ^ i) + 10 ^ i * (a / 10 ^ i % 10 + b / 10 ^ i % 10) := by rw [Nat.mul_add]; omega
    rw [e, Nat.add_mul_div_left _ _ hp]; omega
theorem plus_end {a b i : Nat} (ha : nd a ≤ i) (hb : nd b ≤ i) (hc : carryP a b i = 0) : a + b < 10 ^ i := by
  have hp : 0 < 10 ^ i := Nat.pow_pos (by decide)
  have h1 := lt_nd a
  have h2 := lt_nd b
  have h3 := Nat.pow_le_pow_right (n := 10) (by decide) ha
  have h4 := Nat.pow_le_pow_right (n := 10) (by decide) hb
  unfold carryP at hc
  rw [Nat.mod_eq_of_lt (by omega), Nat.mod_eq_of_lt (by omega)] at hc
  rcases Nat.lt_or_ge (a + b) (10 ^ i) with h | h
  · exact h
  · have := Nat.div_pos h hp; omega

/-! ### differences -/
def borrow (a b i : Nat) : Nat := if a % 10 ^ i < b % 10 ^ i then 1 else 0
theorem borrow_zero {a b : Nat} : borrow a b 0 = 0 := by simp [borrow, Nat.mod_one]
theorem borrow_succ {a b i : Nat} : borrow a b (i + 1) = if a / 10 ^ i % 10 < b / 10 ^ i % 10 + borrow a b i then 1 else 0 := by
  have hp : 0 < 10 ^ i := Nat.pow_pos (by decide)
  have h1 := Nat.mod_lt a hp
  have h2 := Nat.mod_lt b hp
  unfold borrow
  rw [mod_pow_succ, mod_pow_succ]
  generalize a % 10 ^ i = x at *
  generalize b % 10 ^ i = y at *
  generalize a / 10 ^ i % 10 = p at *
  generalize b / 10 ^ i % 10 = q at *
  generalize 10 ^ i = t at *
  by_cases hxy : x < y
  · rw [if_pos hxy]
    by_cases hpq : p < q + 1
    · rw [if_pos hpq]
      have : t * p ≤ t * q := Nat.mul_le_mul_left t (by omega)
      rw [if_pos (by omega)]
    · rw [if_neg hpq]
      have : t * (q + 1) ≤ t * p := Nat.mul_le_mul_left t (by omega)
      rw [Nat.mul_add] at this
      rw [if_neg (by omega)]
  · rw [if_neg hxy]
    by_cases hpq : p < q + 0
    · rw [if_pos hpq]
      have : t * (p + 1) ≤ t * q := Nat.mul_le_mul_left t (by omega)
      rw [Nat.mul_add] at this
      rw [if_pos (by omega)]
    · rw [if_neg hpq]
      have : t * q ≤ t * p := Nat.mul_le_mul_left t (by omega)
      rw [if_neg (by omega)]
theorem minus_div {a b i : Nat} (h : b ≤ a) : (a - b) / 10 ^ i + b / 10 ^ i + borrow a b i = a / 10 ^ i := by
  have hp : 0 < 10 ^ i := Nat.pow_pos (by decide)
  obtain ⟨c, rfl⟩ : ∃ c, a = b + c := ⟨a - b, by omega⟩
  rw [Nat.add_sub_cancel_left, Nat.add_div hp]
  unfold borrow
  have h1 := Nat.mod_lt b hp
  have h2 := Nat.mod_lt c hp
  rw [Nat.add_mod]
  by_cases hh : 10 ^ i ≤ b % 10 ^ i + c % 10 ^ i
  · have : (b % 10 ^ i + c % 10 ^ i) % 10 ^ i = b % 10 ^ i + c % 10 ^ i - 10 ^ i := by
      rw [Nat.mod_eq_sub_mod hh, Nat.mod_eq_of_lt (by omega)]
    rw [this, if_pos hh, if_pos (by omega)]; omega
  · have : (b % 10 ^ i + c % 10 ^ i) % 10 ^ i = b % 10 ^ i + c % 10 ^ i := Nat.mod_eq_of_lt (by omega)
    rw [this, if_neg hh, if_neg (by omega)]; omega
/-- One digit of a difference. -/
theorem minus_step {a b i : Nat} (h : b ≤ a) :
    ((a / 10 ^ i % 10 : Nat) : Int) - ((b / 10 ^ i % 10 : Nat) : Int) - (borrow a b i : Nat) + 10 * (borrow a b (i + 1) : Nat) = (((a - b) / 10 ^ i % 10 : Nat) : Int) := by
  have h0 := minus_div (i := i) h
  have h1 := minus_div (i := i + 1) h
  rw [div_pow_succ, div_pow_succ, div_pow_succ] at h1
  omega

end Go.Proofs.Ytmgiefeggkikcaa.Rf
