/- Whole numbers as rows of digits, the least one first: mathematics. -/
import Derived.Test.YtdomenmfkbfakaaGreatDoorGr08
import Derived.Test.YtdomenmfkbfakaaGreatDoorGr07
set_option linter.unusedVariables false
set_option linter.unusedSimpArgs false
namespace Go.Proofs.YtdomenmfkbfakaaGreatDoor.Rf
open Go Sx

/-- So many digits of a number. -/
def dN (i n : Nat) : List Int := (List.range i).map fun j => ((n / 10 ^ j % 10 : Nat) : Int)
/-- How many digits a number has. -/
def nd : Nat → Nat
  | 0 => 0
  | n + 1 => nd ((n + 1) / 10) + 1
decreasing_by omega
/-- Its digits. -/
def dg (n : Nat) : List Int := dN (nd n) n

theorem nd_zero : nd 0 = 0 := by unfold nd; rfl
theorem nd_pos {n : Nat} (h : 0 < n) : nd n = nd (n / 10) + 1 := by
  obtain ⟨m, rfl⟩ : ∃ m, n = m + 1 := ⟨n - 1, by omega⟩
  rw [nd]
theorem dN_length {i n : Nat} : (dN i n).length = i := by simp [dN]
theorem dg_length {n : Nat} : (dg n).length = nd n := dN_length
theorem dN_zero {n : Nat} : dN 0 n = [] := rfl
theorem dN_succ {i n : Nat} : dN (i + 1) n = dN i n ++ [((n / 10 ^ i % 10 : Nat) : Int)] := by
  simp [dN, List.range_succ]
theorem dN_take {i j n : Nat} (h : i ≤ j) : (dN j n).take i = dN i n := by
  simp only [dN, ← List.map_take, List.take_range, Nat.min_eq_left h]
theorem dN_getD {i j n : Nat} (h : j < i) : (dN i n).getD j 0 = ((n / 10 ^ j % 10 : Nat) : Int) := by
  simp [dN, List.getD, h]
theorem dN_out {i j n : Nat} (h : i ≤ j) : (dN i n).getD j 0 = 0 := by
  simp [dN, List.getD, h]
theorem lt_nd : ∀ (n : Nat), n < 10 ^ nd n := by
  intro n
  induction n using Nat.strongRecOn with
  | ind n ih =>
    rcases Nat.eq_zero_or_pos n with rfl | h
    · rw [nd_zero]; decide
    · have := ih (n / 10) (by omega)
      rw [nd_pos h, Nat.pow_succ]; omega
theorem nd_le {n k : Nat} (h : n < 10 ^ k) : nd n ≤ k := by
  induction k generalizing n with
  | zero => have : n = 0 := by omega
            subst this; rw [nd_zero]; exact Nat.le_refl _
  | succ k ih =>
    rcases Nat.eq_zero_or_pos n with rfl | h0
    · rw [nd_zero]; omega
    · rw [nd_pos h0]
      have := ih (n := n / 10) (by rw [Nat.pow_succ] at h; omega)
      omega
theorem nd_lt {n k : Nat} (h : 10 ^ k ≤ n) : k < nd n := by
  rcases Nat.lt_or_ge k (nd n) with h1 | h1
  · exact h1
  · have := lt_nd n
    have := Nat.pow_le_pow_right (n := 10) (by decide) h1
    omega
theorem le_of_lt_nd {n k : Nat} (h : k < nd n) : 10 ^ k ≤ n := by
  rcases Nat.lt_or_ge n (10 ^ k) with h1 | h1
  · have := nd_le h1; omega
  · exact h1
theorem nd_mono {a b : Nat} (h : a ≤ b) : nd a ≤ nd b := nd_le (Nat.lt_of_le_of_lt h (lt_nd b))
theorem dg_zero : dg 0 = [] := by simp [dg, nd_zero, dN]
theorem dg_getD {n j : Nat} : (dg n).getD j 0 = ((n / 10 ^ j % 10 : Nat) : Int) := by
  rcases Nat.lt_or_ge j (nd n) with h | h
  · exact dN_getD h
  · have h1 := lt_nd n
    have h2 := Nat.pow_le_pow_right (n := 10) (by decide) h
    rw [dg, dN_out h, Nat.div_eq_of_lt (by omega)]; rfl
theorem div_pow_succ {n i : Nat} : n / 10 ^ (i + 1) = n / 10 ^ i / 10 := by rw [Nat.pow_succ, Nat.div_div_eq_div_mul]
theorem mod_pow_succ {n i : Nat} : n % 10 ^ (i + 1) = n % 10 ^ i + 10 ^ i * (n / 10 ^ i % 10) := by rw [Nat.pow_succ, Nat.mod_mul]
theorem nd_add {a b : Nat} : nd (a + b) ≤ max (nd a) (nd b) + 1 := by
  apply nd_le
  have h1 := lt_nd a
  have h2 := lt_nd b
  have h3 := Nat.pow_le_pow_right (n := 10) (by decide) (Nat.le_max_left (nd a) (nd b))
  have h4 := Nat.pow_le_pow_right (n := 10) (by decide) (Nat.le_max_right (nd a) (nd b))
  rw [Nat.pow_succ]; omega

/-! ### sums -/
def carryP (a b i : Nat) : Nat := (a % 10 ^ i + b % 10 ^ i) / 10 ^ i
theorem carryP_zero {a b : Nat} : carryP a b 0 = 0 := by simp [carryP]; omega
theorem carryP_le {a b i : Nat} : carryP a b i ≤ 1 := by
  unfold carryP
  have hp : 0 < 10 ^ i := Nat.pow_pos (by decide)
  have h1 := Nat.mod_lt a hp
  have h2 := Nat.mod_lt b hp
  have : (a % 10 ^ i + b % 10 ^ i) / 10 ^ i < 2 := by rw [Nat.div_lt_iff_lt_mul hp]; omega
  omega
theorem plus_step {a b i : Nat} : (a / 10 ^ i % 10 + b / 10 ^ i % 10 + carryP a b i) % 10 = (a + b) / 10 ^ i % 10 ∧ (a / 10 ^ i % 10 + b / 10 ^ i % 10 + carryP a b i) / 10 = carryP a b (i + 1) := by
  have hp : 0 < 10 ^ i := Nat.pow_pos (by decide)
  constructor
  · have h : (a + b) / 10 ^ i = a / 10 ^ i + b / 10 ^ i + carryP a b i := by
      unfold carryP
      rw [Nat.add_div hp]
      have h1 := Nat.mod_lt a hp
      have h2 := Nat.mod_lt b hp
      split
      · rename_i hh
        have : (a % 10 ^ i + b % 10 ^ i) / 10 ^ i = 1 := by
          rw [Nat.div_eq_iff hp]; omega
        omega
      · rename_i hh
        have : (a % 10 ^ i + b % 10 ^ i) / 10 ^ i = 0 := Nat.div_eq_of_lt (by omega)
        omega
    rw [h]; omega
  · unfold carryP
    rw [mod_pow_succ, mod_pow_succ, Nat.pow_succ, ← Nat.div_div_eq_div_mul]
    congr 1
    have e : a % 10 ^ i + 10 ^ i * (a / 10 ^ i % 10) + (b % 10 ^ i + 10 ^ i * (b / 10 ^ i % 10)) = (a % 10 ^ i + b % 10 ^ i) + 10 ^ i * (a / 10 ^ i % 10 + b / 10 ^ i % 10) := by rw [Nat.mul_add]; omega
    rw [e, Nat.add_mul_div_left _ _ hp]; omega
theorem plus_end {a b i : Nat} (ha : nd a ≤ i) (hb : nd b ≤ i) (hc : carryP a b i = 0) : a + b < 10 ^ i := by
  have hp : 0 < 10 ^ i := Nat.pow_pos (by decide)
  have h1 := lt_nd a
  have h2 := lt_nd b
  have h3 := Nat.pow_le_pow_right (n := 10) (by decide) ha
  have h4 := Nat.pow_le_pow_right (n := 10) (by decide) hb
  unfold carryP at hc
  rw [Nat.mod_eq_of_lt (by omega), Nat.mod_eq_of_lt (by omega)] at hc
  rcases Nat.lt_or_ge (a + b) (10 ^ i) with h | h
  · exact h
  · have := Nat.div_pos h hp; omega

/-! ### differences -/
def borrow (a b i : Nat) : Nat := if a % 10 ^ i < b % 10 ^ i then 1 else 0
theorem borrow_zero {a b : Nat} : borrow a b 0 = 0 := by simp [borrow, Nat.mod_one]
theorem borrow_succ {a b i : Nat} : borrow a b (i + 1) = if a / 10 ^ i % 10 < b / 10 ^ i % 10 + borrow a b i then 1 else 0 := by
  have hp : 0 < 10 ^ i := Nat.pow_pos (by decide)
  have h1 := Nat.mod_lt a hp
  have h2 := Nat.mod_lt b hp
  unfold borrow
  rw [mod_pow_succ, mod_pow_succ]
  generalize a % 10 ^ i = x at *
  generalize b % 10 ^ i = y at *
  generalize a / 10 ^ i % 10 = p at *
  generalize b / 10 ^ i % 10 = q at *
  generalize 10 ^ i = t at *
  by_cases hxy : x < y
  · rw [if_pos hxy]
    by_cases hpq : p < q + 1
    · rw [if_pos hpq]
      have : t * p ≤ t * q := Nat.mul_le_mul_left t (by omega)
      rw [if_pos (by omega)]
    · rw [if_neg hpq]
      have : t * (q + 1) ≤ t * p := Nat.mul_le_mul_left t (by omega)
      rw [Nat.mul_add] at this
      rw [if_neg (by omega)]
  · rw [if_neg hxy]
    by_cases hpq : p < q + 0
    · rw [if_pos hpq]
      have : t * (p + 1) ≤ t * q := Nat.mul_le_mul_left t (by omega)
      rw [Nat.mul_add] at this
      rw [if_pos (by omega)]
    · rw [if_neg hpq]
      have : t * q ≤ t * p := Nat.mul_le_mul_left t (by omega)
      rw [if_neg (by omega)]
theorem minus_div {a b i : Nat} (h : b ≤ a) : (a - b) / 10 ^ i + b / 10 ^ i + borrow a b i = a / 10 ^ i := by
  have hp : 0 < 10 ^ i := Nat.pow_pos (by decide)
  obtain ⟨c, rfl⟩ : ∃ c, a = b + c := ⟨a - b, by omega⟩
  rw [Nat.add_sub_cancel_left, Nat.add_div hp]
  unfold borrow
  have h1 := Nat.mod_lt b hp
  have h2 := Nat.mod_lt c hp
  rw [Nat.add_mod]
  by_cases hh : 10 ^ i ≤ b % 10 ^ i + c % 10 ^ i
  · have : (b % 10 ^ i + c % 10 ^ i) % 10 ^ i = b % 10 ^ i + c % 10 ^ i - 10 ^ i := by
      rw [Nat.mod_eq_sub_mod hh, Nat.mod_eq_of_lt (by omega)]
    rw [this, if_pos hh, if_pos (by omega)]; omega
  · have : (b % 10 ^ i + c % 10 ^ i) % 10 ^ i = b % 10 ^ i + c % 10 ^ i := Nat.mod_eq_of_lt (by omega)
    rw [this, if_neg hh, if_neg (by omega)]; omega
/-- One digit of a difference. -/
theorem minus_step {a b i : Nat} (h : b ≤ a) :
    ((a / 10 ^ i % 10 : Nat) : Int) - ((b / 10 ^ i % 10 : Nat) : Int) - (borrow a b i : Nat) + 10 * (borrow a b (i + 1) : Nat) = (((a - b) / 10 ^ i % 10 : Nat) : Int) := by
  have h0 := minus_div (i := i) h
  have h1 := minus_div (i := i + 1) h
  rw [div_pow_succ, div_pow_succ, div_pow_succ] at h1
  omega

end Go.Proofs.YtdomenmfkbfakaaGreatDoor.Rf

set_option maxRecDepth 20000
namespace Go.Proofs.YtdomenmfkbfakaaGreatDoor.Rr
open Go Sx Rf
theorem dg_none {a k : Nat} (h : ¬ k < nd a) : (0 : Int) = ((a / 10 ^ k % 10 : Nat) : Int) := by
  rw [← dg_getD, dg, dN_out (by omega)]
theorem trim_zero {n m : Nat} (h : nd n ≤ m) : ((n / 10 ^ m % 10 : Nat) : Int) = 0 := by
  rw [← dg_getD, dg, dN_out h]
theorem trim_top {n m : Nat} (h : nd n = m + 1) : ¬ ((n / 10 ^ m % 10 : Nat) : Int) = 0 := by
  have h1 := le_of_lt_nd (n := n) (k := m) (by omega)
  have h2 := lt_nd n
  rw [h, Nat.pow_succ] at h2
  have hp : 0 < 10 ^ m := Nat.pow_pos (by decide)
  have h3 := Nat.div_pos h1 hp
  have h4 : n / 10 ^ m < 10 := by rw [Nat.div_lt_iff_lt_mul hp]; omega
  omega
theorem digs_abs {q : Int} {N k : Nat} (h : q.natAbs = N / 10 ^ k) : (q.tdiv 10).natAbs = N / 10 ^ (k + 1) := by
  rw [Int.natAbs_tdiv, h, div_pow_succ]; rfl
theorem dig_pos {q : Int} {N k : Nat} (h : q.natAbs = N / 10 ^ k) (c : ¬ q.tmod 10 < 0) : q.tmod 10 = ((N / 10 ^ k % 10 : Nat) : Int) := by
  have h1 : (q.tmod 10).natAbs = N / 10 ^ k % 10 := by rw [Int.natAbs_tmod, h]; rfl
  omega
theorem dig_neg {q : Int} {N k : Nat} (h : q.natAbs = N / 10 ^ k) (c : q.tmod 10 < 0) : -(q.tmod 10) = ((N / 10 ^ k % 10 : Nat) : Int) := by
  have h1 : (q.tmod 10).natAbs = N / 10 ^ k % 10 := by rw [Int.natAbs_tmod, h]; rfl
  omega
theorem tdiv10 {q : Int} (h : -9223372036854775808 ≤ q ∧ q < 9223372036854775808) : -9223372036854775808 ≤ q.tdiv 10 ∧ q.tdiv 10 < 9223372036854775808 := by
  have h1 : (q.tdiv 10).natAbs = q.natAbs / 10 := Int.natAbs_tdiv q 10
  omega
theorem tmod_range (q : Int) : -10 < q.tmod 10 ∧ q.tmod 10 < 10 := by
  have h1 : (q.tmod 10).natAbs = q.natAbs % 10 := Int.natAbs_tmod q 10
  omega
theorem div_top {a k : Nat} : a / 10 ^ k = 10 * (a / 10 ^ (k + 1)) + a / 10 ^ k % 10 := by rw [div_pow_succ]; omega
theorem nd_div {a : Nat} : a / 10 ^ nd a = 0 := Nat.div_eq_of_lt (lt_nd a)
theorem less_at {a b k : Nat} (h : a / 10 ^ (k + 1) = b / 10 ^ (k + 1)) (hd : ¬ ((a / 10 ^ k % 10 : Nat) : Int) = ((b / 10 ^ k % 10 : Nat) : Int)) : (((a / 10 ^ k % 10 : Nat) : Int) < ((b / 10 ^ k % 10 : Nat) : Int)) ↔ a < b := by
  have h1 := div_top (a := a) (k := k)
  have h2 := div_top (a := b) (k := k)
  rw [h] at h1
  have hp : 0 < 10 ^ k := Nat.pow_pos (by decide)
  constructor
  · intro h3
    rcases Nat.lt_or_ge a b with h4 | h4
    · exact h4
    · have := Nat.div_le_div_right (c := 10 ^ k) h4; omega
  · intro h3
    have := Nat.div_le_div_right (c := 10 ^ k) (Nat.le_of_lt h3); omega
theorem nd_less {a b : Nat} (h : nd a < nd b) : a < b := by
  rcases Nat.lt_or_ge a b with h4 | h4
  · exact h4
  · have := nd_mono h4; omega
/-- How many digits a sum is given, ahead of the trimming. -/
def pl (a b : Nat) : Nat := if carryP a b (max (nd a) (nd b)) = 0 then max (nd a) (nd b) else max (nd a) (nd b) + 1
theorem pl_go {a b k : Nat} (h : k < pl a b) : k < nd a ∨ k < nd b ∨ 0 < carryP a b k := by
  unfold pl at h
  split at h
  · omega
  · rename_i hc
    by_cases e : k = max (nd a) (nd b)
    · subst e; omega
    · omega
theorem pl_ge {a b : Nat} : nd a ≤ pl a b ∧ nd b ≤ pl a b ∧ pl a b ≤ max (nd a) (nd b) + 1 := by
  unfold pl; split <;> omega
theorem pl_carry {a b : Nat} : carryP a b (pl a b) = 0 := by
  unfold pl
  split
  · assumption
  · have h1 := lt_nd a
    have h2 := lt_nd b
    have h3 := Nat.pow_le_pow_right (n := 10) (by decide) (Nat.le_max_left (nd a) (nd b))
    have h4 := Nat.pow_le_pow_right (n := 10) (by decide) (Nat.le_max_right (nd a) (nd b))
    unfold carryP
    have h5 : 0 < 10 ^ max (nd a) (nd b) := Nat.pow_pos (by decide)
    rw [Nat.pow_succ, Nat.mod_eq_of_lt (by omega), Nat.mod_eq_of_lt (by omega), Nat.div_eq_of_lt (by omega)]
theorem pl_end {a b : Nat} : nd (a + b) ≤ pl a b := nd_le (plus_end pl_ge.1 pl_ge.2.1 pl_carry)
theorem plusD {a b k : Nat} : (((a / 10 ^ k % 10 + b / 10 ^ k % 10 + carryP a b k) % 10 : Nat) : Int) = (((a + b) / 10 ^ k % 10 : Nat) : Int) := by rw [plus_step.1]
theorem plusC {a b k : Nat} : (((a / 10 ^ k % 10 + b / 10 ^ k % 10 + carryP a b k) / 10 : Nat) : Int) = ((carryP a b (k + 1) : Nat) : Int) := by rw [plus_step.2]
theorem minusC_neg {a b k : Nat} (c : ((a / 10 ^ k % 10 : Nat) : Int) - ((b / 10 ^ k % 10 : Nat) : Int) - ((borrow a b k : Nat) : Int) < 0) : (1 : Int) = ((borrow a b (k + 1) : Nat) : Int) := by
  rw [borrow_succ, if_pos (by omega)]; rfl
theorem minusC_pos {a b k : Nat} (c : ¬ ((a / 10 ^ k % 10 : Nat) : Int) - ((b / 10 ^ k % 10 : Nat) : Int) - ((borrow a b k : Nat) : Int) < 0) : (0 : Int) = ((borrow a b (k + 1) : Nat) : Int) := by
  rw [borrow_succ, if_neg (by omega)]; rfl
theorem minusD_neg {a b k : Nat} (h : b ≤ a) (c : ((a / 10 ^ k % 10 : Nat) : Int) - ((b / 10 ^ k % 10 : Nat) : Int) - ((borrow a b k : Nat) : Int) < 0) : ((a / 10 ^ k % 10 : Nat) : Int) - ((b / 10 ^ k % 10 : Nat) : Int) - ((borrow a b k : Nat) : Int) + 10 = (((a - b) / 10 ^ k % 10 : Nat) : Int) := by
  have := minus_step (i := k) h; have := minusC_neg c; omega
theorem minusD_pos {a b k : Nat} (h : b ≤ a) (c : ¬ ((a / 10 ^ k % 10 : Nat) : Int) - ((b / 10 ^ k % 10 : Nat) : Int) - ((borrow a b k : Nat) : Int) < 0) : ((a / 10 ^ k % 10 : Nat) : Int) - ((b / 10 ^ k % 10 : Nat) : Int) - ((borrow a b k : Nat) : Int) = (((a - b) / 10 ^ k % 10 : Nat) : Int) := by
  have := minus_step (i := k) h; have := minusC_pos c; omega
theorem borrow_le {a b i : Nat} : borrow a b i ≤ 1 := by unfold borrow; split <;> omega
theorem minus_end {a b : Nat} : nd (a - b) ≤ nd a := nd_mono (Nat.sub_le a b)
theorem nd_eq_zero {a : Nat} (h : nd a = 0) : a = 0 := by
  rcases Nat.eq_zero_or_pos a with h1 | h1
  · exact h1
  · have := nd_pos h1; omega
theorem nd_ten {a n : Nat} (h : 0 < a) : nd (a * 10 ^ n) = nd a + n := by
  have h1 := lt_nd a
  have h2 := le_of_lt_nd (n := a) (k := nd a - 1) (by rw [nd_pos h]; omega)
  have h3 : 0 < nd a := by rw [nd_pos h]; omega
  have hp : 0 < 10 ^ n := Nat.pow_pos (by decide)
  apply Nat.le_antisymm
  · apply nd_le; rw [Nat.pow_add]; exact (Nat.mul_lt_mul_right hp).2 h1
  · have : 10 ^ (nd a - 1 + n) ≤ a * 10 ^ n := by rw [Nat.pow_add]; exact Nat.mul_le_mul_right _ h2
    have := nd_lt this; omega
theorem dg_ten {a n : Nat} (h : 0 < a) : List.replicate n (0 : Int) ++ dg a = dg (a * 10 ^ n) := by
  apply List.ext_getElem?
  intro j
  have hp : 0 < 10 ^ n := Nat.pow_pos (by decide)
  by_cases hj : j < nd a + n
  · have hr : j < nd (a * 10 ^ n) := by rw [nd_ten h]; exact hj
    by_cases hn : j < n
    · rw [List.getElem?_append_left (by simpa using hn)]
      simp only [dg, dN, List.getElem?_map, List.getElem?_range hr, List.getElem?_replicate, if_pos hn, Option.map_some, Option.some.injEq]
      have : a * 10 ^ n / 10 ^ j % 10 = 0 := by
        rw [show n = j + (n - j - 1 + 1) by omega, Nat.pow_add, Nat.pow_succ, show a * (10 ^ j * (10 ^ (n - j - 1) * 10)) = 10 ^ j * (a * 10 ^ (n - j - 1) * 10) by simp only [Nat.mul_comm, Nat.mul_left_comm, Nat.mul_assoc], Nat.mul_div_cancel_left _ (Nat.pow_pos (by decide))]
        omega
      rw [this]; rfl
    · rw [List.getElem?_append_right (by simp; omega), List.length_replicate]
      have hj2 : j - n < nd a := by omega
      simp only [dg, dN, List.getElem?_map, List.getElem?_range hr, List.getElem?_range hj2, Option.map_some, Option.some.injEq]
      have : a * 10 ^ n / 10 ^ j = a / 10 ^ (j - n) := by
        rw [show 10 ^ j = 10 ^ (j - n) * 10 ^ n by rw [← Nat.pow_add]; congr 1; omega, Nat.mul_div_mul_right _ _ hp]
      rw [this]
  · rw [List.getElem?_eq_none (by simp [dg_length]; omega), List.getElem?_eq_none (by rw [dg_length, nd_ten h]; omega)]
theorem ten_pos {a : Nat} (h : ¬ ((nd a : Nat) : Int) = 0) : 0 < a := by
  rcases Nat.eq_zero_or_pos a with h1 | h1
  · rw [h1, nd_zero] at h; exact absurd rfl h
  · exact h1
theorem dN_cons {j x d : Nat} (hd : d < 10) : ((d : Nat) : Int) :: dN j x = dN (j + 1) (10 * x + d) := by
  apply List.ext_getElem?
  intro i
  cases i with
  | zero => simp [dN]; omega
  | succ i =>
    simp only [dN, List.getElem?_cons_succ, List.getElem?_map]
    by_cases h : i < j
    · rw [List.getElem?_range h, List.getElem?_range (by omega)]
      simp only [Option.map_some, Option.some.injEq]
      rw [Nat.pow_succ, Nat.mul_comm (10 ^ i) 10, ← Nat.div_div_eq_div_mul]
      congr 3; omega
    · rw [List.getElem?_eq_none (by simp; omega), List.getElem?_eq_none (by simp; omega)]; rfl
/-- What is divided in one round: what was left, and the next digit. -/
def byY (a b k : Nat) : Nat := 10 * (a / 10 ^ (k + 1) % b) + a / 10 ^ k % 10
theorem byY_lt {a b k : Nat} (hb : 0 < b) : byY a b k < 10 * b := by
  unfold byY
  have := Nat.mod_lt (a / 10 ^ (k + 1)) hb
  omega
theorem byY_div {a b k : Nat} (hb : 0 < b) : 10 * (a / 10 ^ (k + 1) / b) + byY a b k / b = a / 10 ^ k / b := by
  have h := div_top (a := a) (k := k)
  have h2 := Nat.div_add_mod (a / 10 ^ (k + 1)) b
  have h3 : a / 10 ^ k = byY a b k + b * (10 * (a / 10 ^ (k + 1) / b)) := by
    unfold byY
    rw [← Nat.mul_assoc, Nat.mul_comm b 10, Nat.mul_assoc]; omega
  rw [h3, Nat.add_mul_div_left _ _ hb]; omega
theorem byY_mod {a b k : Nat} (hb : 0 < b) : byY a b k % b = a / 10 ^ k % b := by
  have h := div_top (a := a) (k := k)
  unfold byY
  generalize a / 10 ^ k % 10 = d at h ⊢
  rw [h, Nat.add_mod, Nat.mul_mod, Nat.mod_mod, ← Nat.mul_mod, ← Nat.add_mod]
theorem byY_ten {a b k : Nat} (hb : 0 < b) : byY a b k / b < 10 := by
  rw [Nat.div_lt_iff_lt_mul hb]; exact byY_lt hb
theorem byY_nd {a b k : Nat} (hb : 0 < b) : nd (byY a b k) ≤ nd b + 1 := nd_le (by
  have h1 := byY_lt (a := a) (k := k) hb
  have h2 := lt_nd b
  rw [Nat.pow_succ]; omega)
theorem by_go {y b d : Nat} (hb : 0 < b) (h : d < y / b) : ¬ y - d * b < b := by
  have h1 := Nat.mul_le_mul_right b (show d + 1 ≤ y / b from h)
  have h2 := Nat.div_mul_le_self y b
  rw [Nat.succ_mul] at h1; omega
theorem by_stop {y b : Nat} (hb : 0 < b) : y - y / b * b = y % b := by
  have := Nat.div_add_mod y b; rw [Nat.mul_comm] at this; omega
theorem by_sub {y b d : Nat} : y - d * b - b = y - (d + 1) * b := by rw [Nat.succ_mul]; omega
theorem by_nd {x d : Nat} (hd : d < 10) : nd (10 * x + d) ≤ 1 + nd x := nd_le (by
  have h2 := lt_nd x
  rw [Nat.pow_add, Nat.pow_one]; omega)
theorem by_len {n k : Nat} (h : k < n) : n - (k + 1) + 1 = n - k := by omega
theorem by_q {a b k : Nat} (hb : 0 < b) (hk : k < nd a) : dN (nd a - (k + 1) + 1) (10 * (a / 10 ^ (k + 1) / b) + byY a b k / b) = dN (nd a - k) (a / 10 ^ k / b) := by rw [byY_div hb, by_len hk]
theorem by_fit {a b : Nat} : nd (a / b) ≤ nd a := nd_mono (Nat.div_le_self a b)
theorem nd_one : nd 1 = 1 := by rw [nd_pos (by decide), show 1 / 10 = 0 from rfl, nd_zero]
theorem dg_one : dg 1 = [1] := by rw [dg, nd_one]; rfl
theorem nd_pow {x k : Nat} : nd (x * 10 ^ k) ≤ nd x + k := nd_le (by
  rw [Nat.pow_add]; exact (Nat.mul_lt_mul_right (Nat.pow_pos (by decide))).2 (lt_nd x))
theorem nd_small {n : Nat} (h : n < 10 ^ 20) : nd n ≤ 20 := nd_le h
/-- A quotient, to the nearest whole number, a half to the even one. -/
def rndE (n d : Nat) : Nat := if d < n % d + n % d ∨ (¬ n % d + n % d < d ∧ n / d / 10 ^ 0 % 10 % 2 = 1) then n / d + 1 else n / d
abbrev nE (N : Nat) (e : Int) : Nat := N * 10 ^ (Int.toNat (-e))
abbrev dE (M : Nat) (e : Int) : Nat := M * 10 ^ (Int.toNat e)
def nearG (N M : Nat) : Nat → Nat → Option (Nat × Int)
  | 0, _ => none
  | f + 1, j => if rndE (nE N ((j : Int) - 9)) (dE M ((j : Int) - 9)) ≤ 999999999999999 then some (rndE (nE N ((j : Int) - 9)) (dE M ((j : Int) - 9)), (j : Int) - 9) else nearG N M f (j + 1)
def sgn (b : Bool) (x : Int) : Int := if b = true then -x else x
theorem rnd_up {n d : Nat} (h : d < n % d + n % d ∨ (¬ n % d + n % d < d ∧ n / d / 10 ^ 0 % 10 % 2 = 1)) : n / d + 1 = rndE n d := by rw [rndE, if_pos h]
theorem rnd_dn {n d : Nat} (h : ¬ (d < n % d + n % d ∨ (¬ n % d + n % d < d ∧ n / d / 10 ^ 0 % 10 % 2 = 1))) : n / d = rndE n d := by rw [rndE, if_neg h]
end Go.Proofs.YtdomenmfkbfakaaGreatDoor.Rr

/- The document's whole numbers by their digits: at, trim, digits. -/
set_option linter.unusedVariables false
set_option linter.unusedSimpArgs false
namespace Go.Proofs.YtdomenmfkbfakaaGreatDoor
open Go Sx Rf Rr
abbrev FL (N : Nat) : AObj := .flat false (ints .i64 (dg N))
abbrev FT (N : Nat) : AObj := .flat true (ints .i64 (dg N))
theorem chkT {R : Type} {b : Bool} {x : Ans} {k : AV → List PObj → Option R} (h : b = true) : (Ans.chk b x).run k = x.run k := by rw [h]; rfl
theorem brT {R : Type} {b : Bool} {x y : Ans} {k : AV → List PObj → Option R} (h : b = true) : (Ans.br b x y).run k = x.run k := by rw [h]; rfl
theorem brF {R : Type} {b : Bool} {x y : Ans} {k : AV → List PObj → Option R} (h : b = false) : (Ans.br b x y).run k = y.run k := by rw [h]; rfl
def gN (l : List Int) (i : Int) : Int := l.getD (i.toNat * 1) 0
def ixN (i : Int) (k : Nat) : Bool := decide (0 ≤ i ∧ i < (k : Int))
def lnN (i : Int) (l : List Int) : Bool := decide (i.toNat * 1 < l.length)
abbrev dwn (i : Int) : Int := IntKind.i64.wrap (i - 1)
abbrev up1 (i : Int) : Int := IntKind.i64.wrap (i + 1)
theorem dwn_nat {j : Nat} (h : j < 1099511627776) : dwn ((j + 1 : Nat) : Int) = (j : Int) := by unfold dwn; rw [i64_in (by omega) (by omega)]; omega
theorem up1_nat {j : Nat} (h : j < 1099511627776) : up1 (j : Int) = ((j + 1 : Nat) : Int) := by unfold up1; rw [i64_in (by omega) (by omega)]; rfl
theorem ixN_nat {j k : Nat} (h : j < k) : ixN (j : Int) k = true := decide_eq_true (by omega)
theorem lnN_nat {j : Nat} {l : List Int} (h : j < l.length) : lnN (j : Int) l = true := decide_eq_true (by rw [Int.toNat_natCast]; omega)
theorem gN_nat (l : List Int) (j : Nat) : gN l (j : Int) = l.getD j 0 := by unfold gN; rw [Int.toNat_natCast, Nat.mul_one]
theorem all2 {a b : Bool} (ha : a = true) (hb : b = true) : ∀ c ∈ [a, b], c = true := by
  intro c hc
  simp only [List.mem_cons, List.not_mem_nil, or_false] at hc
  rcases hc with rfl | rfl
  · exact ha
  · exact hb
theorem all1 {a : Bool} (ha : a = true) : ∀ c ∈ [a], c = true := fun c hc => by rw [List.mem_singleton.1 hc]; exact ha
/-- A digit. -/
def atF (l : List Int) (k : Nat) (i : Int) : Int := if i < (k : Int) then l.getD i.toNat 0 else 0
theorem at_comes (l : List Int) (k : Nat) (i : Int) : Comes [] nolv 115 [.dsl 0 k, .int .i64 i] [.flatI false l]
  (.br (decide (i < (k : Int))) (.chk (ixN i k) (.chk (lnN i l) (.ret (.int .i64 (gN l i)) [.flatI false l]))) (.ret (.int .i64 0) [.flatI false l])) := by unfold Comes; kernel_rfl
def eAtN : Ent := fun args pre => match args, pre with
  | [.dsl 0 k, .int .i64 i], [.flatI f l] => .chk (decide (k ≤ l.length ∧ 0 ≤ i)) (.ret (.int .i64 (atF l k i)) [.flatI f l])
  | _, _ => .fail
theorem eAtN_ok : EntOK Tryz.prog 115 eAtN := fun args pre => by
  unfold eAtN
  split
  · rename_i k i f l
    refine ⟨fun g => ?_, fun _ => trivial⟩
    obtain ⟨h1, h2⟩ := of_decide_eq_true g
    have h : Meets Tryz.prog 115 [.dsl 0 k, .int .i64 i] [.flat false (ints .i64 l)] (.int .i64 (atF l k i)) [.flat false (ints .i64 l)] := meets_ent (T := []) (pre := [.flatI false l]) (post := [.flatI false l]) .nil host ((at_comes l k i).trans (by
      unfold atF
      simp only [Ans.chk, Ans.run]
      by_cases hi : i < (k : Int)
      · obtain ⟨j, rfl⟩ := Int.eq_ofNat_of_zero_le h2
        rw [bcT (decide_eq_true hi), if_pos hi, bcT (ixN_nat (by omega)), bcT (lnN_nat (by omega)), gN_nat, Int.toNat_natCast]; rfl
      · rw [bcF (decide_eq_false hi), if_neg hi]; rfl))
    exact meets_fitF (m' := f) (l := l) h (j := 0) rfl (List.take_length ..)
  · trivial
/-- How many digits are left, without noughts at the end. -/
def trimN (l : List Int) : Nat → Nat
  | 0 => 0
  | n + 1 => if l.getD n 0 == 0 then trimN l n else n + 1
noncomputable abbrev loopT1 : Code := (loopBodies (bodyOf Tryz.f101)).headD .skip
def sT (k : Nat) (l : List Int) (i : Int) : PState := ⟨some (.vec 0 k) :: none :: none :: some (.int .i64 i) :: nn 17, some (.vecI .i64 l 3) :: nn 64⟩
theorem rT (k : Nat) (l : List Int) (i : Int) : code (ent Tryz.prog [] nolv 64 1 20) Tryz.prog {} 1 64 1 loopT1 (sT k l i) (endK 1 64 (fun n => hasN [0, 3] n) (fun n => hasN [0, 3] n))
  = bcond (decide (i > 0)) (chks (bcond (gN l (dwn i) == 0) (some (.normal, sT k l (dwn i))) (some (.exit 0, sT k l i))) [ixN (dwn i) k, lnN (dwn i) l]) (some (.exit 0, sT k l i)) := by kernel_rfl
theorem loopT {k : Nat} {l : List Int} (h : k ≤ l.length) (hs : l.length < 1099511627776) : Tri Tryz.prog (.loop loopT1) (sT k l k).toA (.exit 0) (sT k l (trimN l k : Nat)).toA 1 := by
  refine loop_rounds (ent_sound (T := []) .nil host nolv_ok (NF := 64) (m := 1) 20) (NF := 64) (m := 1) loops_none (fun n => hasN [0, 3] n) (fun n => hasN [0, 3] n) (ι := { j : Nat // j ≤ k }) (fun j => sT k l (j.1 : Int)) (fun j => j.1) (fun j => (.exit 0, sT k l (trimN l j.1 : Nat))) ?_ (fun _ => by simp) ⟨k, Nat.le_refl _⟩
  rintro ⟨j, hj⟩
  simp only
  cases j with
  | zero => exact .inr ((rT k l _).trans (by rw [bcF (decide_eq_false (by omega))]; rfl))
  | succ j =>
    have key := rT k l ((j + 1 : Nat) : Int)
    rw [bcT (decide_eq_true (by omega)), dwn_nat (by omega), chks_true (all2 (ixN_nat (by omega)) (lnN_nat (by omega))), gN_nat] at key
    cases hz : l.getD j 0 == 0 with
    | true => exact .inl ⟨⟨j, by omega⟩, by simp only; omega, by simp only [trimN, hz, if_true], by rw [key, hz]; rfl⟩
    | false => exact .inr (by rw [key, hz]; simp only [trimN, hz]; rfl)
def aT (k : Nat) (l : List Int) : LAns := .chk (decide (k ≤ l.length ∧ l.length < 1099511627776)) (.out (.exit 0) (sT k l (trimN l k : Nat)))
theorem aT_ok (k : Nat) (l : List Int) : LAnsOK Tryz.prog loopT1 1 (sT k l k) (aT k l) := ⟨fun g => let g := of_decide_eq_true g; loopT g.1 g.2, fun _ => trivial⟩
noncomputable def lvT (k : Nat) (l : List Int) : FuncId → Lv := lvOf 101 (fun _ => some [0, 3]) (oneL 2 (eAt 1 (sT k l k) (aT k l)))
theorem lvT_ok (k : Nat) (l : List Int) : LvOK Tryz.prog (lvT k l) := lvOne_ok (x := loopT1) Tryz.func101 (by kernel_rfl) fun K t => eAt_ok (aT_ok k l) K t
theorem trim_comes (k : Nat) (l : List Int) : Comes [] (lvT k l) 101 [.vec 0 k] [.vecI .i64 l 3]
  (.chk (eqSt (sT k l k) (sT k l k)) (.chk (decide (k ≤ l.length ∧ l.length < 1099511627776)) (.chk (decide (0 ≤ ((trimN l k : Nat) : Int)) && decide (0 < 1 ∧ trimN l k * 1 ≤ l.length)) (.ret (.vec 0 (trimN l k)) [.vecI .i64 l 3])))) := by unfold Comes; kernel_rfl
theorem trim_nil : Comes [] nolv 101 [.nilslice] [] (.ret .nilslice []) := by unfold Comes; kernel_rfl
theorem trimN_le (l : List Int) : ∀ k, trimN l k ≤ k
  | 0 => Nat.le_refl _
  | k + 1 => by unfold trimN; split; exact Nat.le_succ_of_le (trimN_le l k); exact Nat.le_refl _
def eTrim : Ent := fun args pre => match args, pre with
  | [.nilslice], [] => .ret .nilslice []
  | [.vec 0 k], [.vecI .i64 l t] => .chk (Nat.beq t 3) (.chk (decide (k ≤ l.length ∧ l.length < 1099511627776)) (.ret (.vec 0 (trimN l k)) [.vecI .i64 l 3]))
  | _, _ => .fail
theorem eTrim_ok : EntOK Tryz.prog 101 eTrim := fun args pre => by
  unfold eTrim
  split
  · exact ans_comes .nil trim_nil
  · rename_i k l t
    refine ⟨fun g1 => ⟨fun g2 => ?_, fun _ => trivial⟩, fun _ => trivial⟩
    obtain rfl := Nat.eq_of_beq_eq_true g1
    have h := of_decide_eq_true g2
    have h3 := trimN_le l k
    exact of_run (ans_comes .nil (trim_comes k l) (lvT_ok k l)) fun r hr => by
      rw [← hr]; simp only [Ans.chk, Ans.run]
      rw [bcT (eqSt_refl _), bcT g2, bcT (b := _ && _) (by rw [decide_eq_true (show (0 : Int) ≤ ((trimN l k : Nat) : Int) by omega), decide_eq_true (show 0 < 1 ∧ trimN l k * 1 ≤ l.length by omega)]; rfl)]
  · trivial
theorem trimN_dN {N : Nat} : ∀ {i : Nat} (k : Nat), k ≤ i → nd N ≤ k → trimN (dN i N) k = nd N
  | i, 0, h, h2 => by unfold trimN; omega
  | i, k + 1, h, h2 => by
    unfold trimN
    rw [dN_getD (by omega)]
    by_cases e : nd N = k + 1
    · rw [if_neg (by simpa using trim_top e), e]
    · rw [if_pos (by rw [trim_zero (by omega)]; rfl)]
      exact trimN_dN k (by omega) (by omega)
end Go.Proofs.YtdomenmfkbfakaaGreatDoor

/- The document's whole numbers by their digits: digits, less. -/
set_option linter.unusedVariables false
set_option linter.unusedSimpArgs false
namespace Go.Proofs.YtdomenmfkbfakaaGreatDoor
open Go Sx Rf Rr
noncomputable abbrev loopD1 : Code := (loopBodies (bodyOf Tryz.f82)).headD .skip
def sD (q : Int) (k : Nat) (l : List Int) : PState := match k with
  | 0 => ⟨some (.int .i64 q) :: none :: none :: some .nilslice :: nn 16, nn 64⟩
  | k + 1 => ⟨some (.int .i64 q) :: none :: none :: some (.vec 0 (k + 1)) :: nn 16, some (.vecI .i64 l 3) :: nn 64⟩
def sDX (k : Nat) (l : List Int) : PState := match k with
  | 0 => ⟨none :: none :: none :: some .nilslice :: nn 16, nn 64⟩
  | k + 1 => ⟨none :: none :: none :: some (.vec 0 (k + 1)) :: nn 16, some (.vecI .i64 l 3) :: nn 64⟩
def roundD {α : Type} (q : Int) (c : List Bool) (nx : Int → Option α) (ex : Option α) : Option α :=
  bcond (q != 0) (bcond (decide (q.tmod 10 < 0)) (chks (nx (IntKind.i64.wrap (0 - q.tmod 10))) c) (chks (nx (q.tmod 10)) c)) ex
theorem rD0 (q : Int) (l : List Int) : code (ent Tryz.prog [] nolv 64 1 20) Tryz.prog {} 0 64 1 loopD1 (sD q 0 l) (endK 0 64 (fun n => hasN [0, 3] n) (fun n => hasN [3] n))
  = roundD q [] (fun d => some (.normal, sD (IntKind.i64.wrap (q.tdiv 10)) 1 [d])) (some (.exit 0, sDX 0 l)) := by kernel_rfl
theorem rDV (q : Int) (k : Nat) (l : List Int) : code (ent Tryz.prog [] nolv 64 1 20) Tryz.prog {} 0 64 1 loopD1 (sD q (k + 1) l) (endK 0 64 (fun n => hasN [0, 3] n) (fun n => hasN [3] n))
  = roundD q [decide (l.length = (k + 1) * 1) && roomB (k + 1 + 1) 8] (fun d => some (.normal, sD (IntKind.i64.wrap (q.tdiv 10)) (k + 1 + 1) (l ++ [d]))) (some (.exit 0, sDX (k + 1) l)) := by kernel_rfl
theorem roundD_ok {α : Type} {q : Int} {N k : Nat} {c : List Bool} {nx : Int → Option α} {ex : Option α} (hq : q.natAbs = N / 10 ^ k) (hc : ∀ b ∈ c, b = true) (h0 : q ≠ 0) : roundD q c nx ex = nx ((N / 10 ^ k % 10 : Nat) : Int) := by
  have hr := tmod_range q
  unfold roundD
  rw [bcT (b := q != 0) (by simpa using h0)]
  by_cases h : q.tmod 10 < 0
  · rw [bcT (decide_eq_true h), chks_true hc, i64_in (by omega) (by omega), show 0 - q.tmod 10 = -(q.tmod 10) by omega, dig_neg hq h]
  · rw [bcF (decide_eq_false h), chks_true hc, dig_pos hq h]
theorem roomB_small {m : Nat} (h : m < 1000000000000) : roomB m 8 = true := decide_eq_true (by omega)
theorem loopD {n : Int} (hb : -9223372036854775808 ≤ n ∧ n < 9223372036854775808) (l0 : List Int) : Tri Tryz.prog (.loop loopD1) (sD n 0 l0).toA (.exit 0) (sDX (nd n.natAbs) (dg n.natAbs)).toA 0 := by
  have hn : nd n.natAbs ≤ 20 := nd_small (by omega)
  refine loop_rounds (ent_sound (T := []) .nil host nolv_ok (NF := 64) (m := 1) 20) (NF := 64) (m := 1) loops_none (fun n => hasN [0, 3] n) (fun n => hasN [3] n) (ι := { p : Nat × Int // p.1 ≤ nd n.natAbs ∧ p.2.natAbs = n.natAbs / 10 ^ p.1 ∧ (-9223372036854775808 ≤ p.2 ∧ p.2 < 9223372036854775808) })
    (fun p => sD p.1.2 p.1.1 (dN p.1.1 n.natAbs)) (fun p => nd n.natAbs - p.1.1) (fun _ => (.exit 0, sDX (nd n.natAbs) (dg n.natAbs))) ?_ (fun _ => by simp) ⟨(0, n), by simp only; omega, by simp, hb⟩
  rintro ⟨⟨k, q⟩, h1, h2, h3⟩
  simp only at h1 h2 h3
  have hw : IntKind.i64.wrap (q.tdiv 10) = q.tdiv 10 := by have := tdiv10 h3; exact i64_in this.1 this.2
  by_cases hq : q = 0
  · right
    subst hq
    have hk : nd n.natAbs ≤ k := by
      rcases Nat.lt_or_ge k (nd n.natAbs) with h | h
      · have := Nat.div_pos (le_of_lt_nd h) (Nat.pow_pos (n := k) (by decide : 0 < 10))
        simp at h2; omega
      · exact h
    have hk : k = nd n.natAbs := by omega
    show code _ _ _ _ _ _ _ (sD 0 k (dN k n.natAbs)) _ = some (Ex.exit 0, sDX (nd n.natAbs) (dN (nd n.natAbs) n.natAbs))
    rw [← hk]
    cases k with
    | zero => exact rD0 0 _
    | succ k => exact rDV 0 k _
  · have hlt : k < nd n.natAbs := by
      rcases Nat.lt_or_ge k (nd n.natAbs) with h | h
      · exact h
      · have : n.natAbs / 10 ^ k = 0 := Nat.div_eq_of_lt (Nat.lt_of_lt_of_le (lt_nd _) (Nat.pow_le_pow_right (by decide) h))
        omega
    refine .inl ⟨⟨(k + 1, q.tdiv 10), by simp only; omega, digs_abs h2, tdiv10 h3⟩, by simp only; omega, rfl, ?_⟩
    show code _ _ _ _ _ _ _ (sD q k (dN k n.natAbs)) _ = some (Ex.normal, sD (q.tdiv 10) (k + 1) (dN (k + 1) n.natAbs))
    rw [dN_succ]
    cases k with
    | zero => exact (rD0 q _).trans ((roundD_ok h2 (by simp) hq).trans (by rw [hw]; rfl))
    | succ k => exact (rDV q k _).trans ((roundD_ok h2 (all1 (by rw [dN_length, decide_eq_true (by omega), Bool.true_and]; exact roomB_small (by omega))) hq).trans (by rw [hw]))
/-- The loop's end, told by how many digits there are. -/
def aDk (n : Int) (k : Nat) (l : List Int) : LAns := .chk (inI n) (.chk (decide (k = nd n.natAbs ∧ l = dg n.natAbs)) (.out (.exit 0) (sDX k l)))
theorem aDk_ok (n : Int) (k : Nat) (l : List Int) : LAnsOK Tryz.prog loopD1 0 (sD n 0 []) (aDk n k l) := ⟨fun g => ⟨fun g2 => by obtain ⟨rfl, rfl⟩ := of_decide_eq_true g2; exact loopD (inI_iff.1 g) [], fun _ => trivial⟩, fun _ => trivial⟩
noncomputable def lvD (n : Int) (k : Nat) (l : List Int) : FuncId → Lv := lvOf 82 (fun _ => some [0, 3]) (oneL 2 (eAt 0 (sD n 0 []) (aDk n k l)))
theorem lvD_ok (n : Int) (k : Nat) (l : List Int) : LvOK Tryz.prog (lvD n k l) := lvOne_ok (x := loopD1) Tryz.func82 (by kernel_rfl) fun K t => eAt_ok (aDk_ok n k l) K t
theorem digits_0 (n : Int) (l : List Int) : Comes [] (lvD n 0 l) 82 [.int .i64 n] [] (.chk (eqSt (sD n 0 []) (sD n 0 [])) (.chk (inI n) (.chk (decide (0 = nd n.natAbs ∧ l = dg n.natAbs)) (.ret .nilslice [])))) := by unfold Comes; kernel_rfl
theorem digits_V (n : Int) (k : Nat) (l : List Int) : Comes [] (lvD n (k + 1) l) 82 [.int .i64 n] [] (.chk (eqSt (sD n 0 []) (sD n 0 [])) (.chk (inI n) (.chk (decide (k + 1 = nd n.natAbs ∧ l = dg n.natAbs)) (.ret (.vec 0 (k + 1)) [.vecI .i64 l 3])))) := by unfold Comes; kernel_rfl
theorem digits_meets (n : Int) (hn : inI n = true) : Meets Tryz.prog 82 [.int .i64 n] [] (.dsl 0 (nd n.natAbs)) [FT n.natAbs] := by
  cases hk : nd n.natAbs with
  | zero =>
    have h : Meets Tryz.prog 82 [.int .i64 n] [] .nilslice [] := meets_ent (T := []) (pre := []) (post := []) .nil host ((digits_0 n (dg n.natAbs)).trans (by
      rw [chkT (eqSt_refl _), chkT hn, chkT (decide_eq_true ⟨hk.symm, rfl⟩)]; rfl)) (lvD_ok _ _ _)
    have e : dg n.natAbs = [] := by rw [dg, hk, dN_zero]
    rw [FT, e]
    exact meets_sealNil h (Nat.le_refl _) fun E E' x hx _ h2 => den_nil hx h2
  | succ k =>
    have h : Meets Tryz.prog 82 [.int .i64 n] [] (.vec 0 (k + 1)) [.vec (ints .i64 (dg n.natAbs)) 3 1] := meets_ent (T := []) (pre := []) (post := [.vecI .i64 (dg n.natAbs) 3]) .nil host ((digits_V n k (dg n.natAbs)).trans (by
      rw [chkT (eqSt_refl _), chkT hn, chkT (decide_eq_true ⟨hk.symm, rfl⟩)]; rfl)) (lvD_ok _ _ _)
    exact meets_sealI h (j := 0) rfl (Nat.le_refl _) (fun E x hx => den_seal hx) (List.take_length ..)
end Go.Proofs.YtdomenmfkbfakaaGreatDoor

/- The document's whole numbers by their digits: less, plus, minus. -/
set_option linter.unusedVariables false
set_option linter.unusedSimpArgs false
namespace Go.Proofs.YtdomenmfkbfakaaGreatDoor
open Go Sx Rf Rr
theorem atF_dg (a j : Nat) : atF (dg a) (nd a) ((j : Nat) : Int) = ((a / 10 ^ j % 10 : Nat) : Int) := by
  unfold atF
  rw [Int.toNat_natCast]
  by_cases h : j < nd a
  · rw [if_pos (by omega), dg_getD]
  · rw [if_neg (by omega), ← dg_none h]
theorem dg_ok (a j : Nat) : decide (nd a ≤ (dg a).length ∧ 0 ≤ ((j : Nat) : Int)) = true := decide_eq_true ⟨by rw [dg_length]; exact Nat.le_refl _, by omega⟩
theorem take_dN {i n : Nat} (h : nd n ≤ i) : (dN i n).take (dg n).length = dg n := by rw [dg_length, dN_take h]; rfl
def two (a b : Nat) : List PObj := [.flatI false (dg a), .flatI false (dg b)]
def mem2 (a b : Nat) (o : Option PObj) : List (Option PObj) := match o with
  | none => some (.flatI false (dg a)) :: some (.flatI false (dg b)) :: nn 64
  | some x => some (.flatI false (dg a)) :: some (.flatI false (dg b)) :: some x :: nn 64
-- less
noncomputable abbrev loopL1 : Code := (loopBodies (bodyOf Tryz.f83)).headD .skip
def sL (a b : Nat) (i : Int) : PState := ⟨some (.dsl 0 (nd a)) :: some (.dsl 1 (nd b)) :: none :: none :: none :: some (.int .i64 i) :: nn 35, mem2 a b none⟩
def sLX (a b : Nat) : PState := ⟨nn 41, mem2 a b none⟩
def sLR (a b : Nat) (r : Bool) : PState := ⟨none :: none :: none :: none :: some (.bool r) :: nn 36, mem2 a b none⟩
theorem rL (a b : Nat) (i : Int) : code (ent Tryz.prog [] nolv 64 1 20) Tryz.prog {} 2 64 1 loopL1 (sL a b i) (endK 2 64 (fun n => hasN [0, 1, 5] n) (fun n => hasN [4] n))
  = bcond (decide (i ≥ 0)) (chks (bcond (gN (dg a) i != gN (dg b) i) (chks (some (.ret, sLR a b (decide (gN (dg a) i < gN (dg b) i)))) [ixN i (nd a), lnN i (dg a), ixN i (nd b), lnN i (dg b)]) (some (.normal, sL a b (dwn i)))) [ixN i (nd a), lnN i (dg a), ixN i (nd b), lnN i (dg b)]) (some (.exit 0, sLX a b)) := by kernel_rfl
theorem all4 {a b c d : Bool} (ha : a = true) (hb : b = true) (hc : c = true) (hd : d = true) : ∀ x ∈ [a, b, c, d], x = true := by
  intro x hx
  simp only [List.mem_cons, List.not_mem_nil, or_false] at hx
  rcases hx with rfl | rfl | rfl | rfl <;> assumption
theorem loopL {a b : Nat} (he : nd a = nd b) (hs : nd a < 1000000000) (o : Ex × PState) (ho : o = if a = b then (.exit 0, sLX a b) else (.ret, sLR a b (decide (a < b)))) : Tri Tryz.prog (.loop loopL1) (sL a b ((nd a : Int) - 1)).toA o.1 o.2.toA 2 := by
  refine loop_rounds (ent_sound (T := []) .nil host nolv_ok (NF := 64) (m := 1) 20) (NF := 64) (m := 1) loops_none (fun n => hasN [0, 1, 5] n) (fun n => hasN [4] n) (ι := { j : Nat // j ≤ nd a ∧ a / 10 ^ j = b / 10 ^ j }) (fun j => sL a b ((j.1 : Int) - 1)) (fun j => j.1) (fun _ => o) ?_ (fun _ => by rw [ho]; split <;> simp) ⟨nd a, Nat.le_refl _, by rw [nd_div, he, nd_div]⟩
  rintro ⟨j, h1, h2⟩
  simp only
  cases j with
  | zero =>
    refine .inr ((rL a b _).trans ?_)
    rw [bcF (decide_eq_false (by omega)), ho, if_pos (by simpa using h2)]
  | succ j =>
    have e : ((j + 1 : Nat) : Int) - 1 = (j : Int) := by omega
    have hd : dwn (j : Int) = (j : Int) - 1 := by unfold dwn; exact i64_in (by omega) (by omega)
    have c4 := all4 (ixN_nat (j := j) (k := nd a) (by omega)) (lnN_nat (l := dg a) (j := j) (by rw [dg_length]; omega)) (ixN_nat (j := j) (k := nd b) (by omega)) (lnN_nat (l := dg b) (j := j) (by rw [dg_length]; omega))
    have key := rL a b (j : Int)
    rw [bcT (decide_eq_true (by omega)), chks_true c4, chks_true c4, gN_nat, gN_nat, dg_getD, dg_getD, hd] at key
    rw [e]
    by_cases hq : ((a / 10 ^ j % 10 : Nat) : Int) = ((b / 10 ^ j % 10 : Nat) : Int)
    · refine .inl ⟨⟨j, by omega, ?_⟩, by simp only; omega, trivial, by rw [key, bcF (bne_eq_false_iff_eq.2 hq)]⟩
      rw [div_top (a := a), div_top (a := b), h2]; omega
    · refine .inr ?_
      rw [key, bcT (bne_iff_ne.2 hq), ho, if_neg (fun e => hq (by rw [e])), decide_eq_decide.2 (less_at h2 hq)]
def aL (a b : Nat) : LAns := .chk (decide (nd a = nd b ∧ nd a < 1000000000)) (.br (decide (a = b)) (.out (.exit 0) (sLX a b)) (.out .ret (sLR a b (decide (a < b)))))
theorem aL_ok (a b : Nat) : LAnsOK Tryz.prog loopL1 2 (sL a b ((nd a : Int) - 1)) (aL a b) := ⟨fun g => ⟨fun g2 => by
    have g := of_decide_eq_true g; exact loopL g.1 g.2 _ (if_pos (of_decide_eq_true g2)).symm, fun g2 => by
    have g := of_decide_eq_true g; exact loopL g.1 g.2 _ (if_neg (of_decide_eq_false g2)).symm⟩, fun _ => trivial⟩
noncomputable def lvL (a b : Nat) : FuncId → Lv := lvOf 83 (fun _ => some [0, 1, 5]) (oneL 4 (eAt 2 (sL a b ((nd a : Int) - 1)) (aL a b)))
theorem lvL_ok (a b : Nat) : LvOK Tryz.prog (lvL a b) := lvOne_ok (x := loopL1) Tryz.func83 (by kernel_rfl) fun K t => eAt_ok (aL_ok a b) K t
theorem less_comes (a b : Nat) : Comes [] (lvL a b) 83 [.dsl 0 (nd a), .dsl 1 (nd b)] (two a b)
  (.br ((nd a : Int) != (nd b : Int)) (.ret (.bool (decide ((nd a : Int) < (nd b : Int)))) (two a b)) (.chk (eqSt (sL a b (dwn (nd a))) (sL a b ((nd a : Int) - 1))) (.chk (decide (nd a = nd b ∧ nd a < 1000000000)) (.br (decide (a = b)) (.ret (.bool false) (two a b)) (.ret (.bool (decide (a < b))) (two a b)))))) := by unfold Comes; kernel_rfl
theorem less_meets (a b : Nat) (ha : nd a < 1000000) (hb : nd b < 1000000) : Meets Tryz.prog 83 [.dsl 0 (nd a), .dsl 1 (nd b)] [FL a, FL b] (.bool (decide (a < b))) [FL a, FL b] :=
  meets_ent (T := []) (pre := two a b) (post := two a b) .nil host ((less_comes a b).trans (by
    by_cases h : nd a = nd b
    · rw [brF (b := (nd a : Int) != (nd b : Int)) (by rw [h]; simp), chkT (by rw [show dwn (nd a) = (nd a : Int) - 1 from i64_in (by omega) (by omega)]; exact eqSt_refl _), chkT (decide_eq_true ⟨h, by omega⟩)]
      by_cases e : a = b
      · rw [brT (decide_eq_true e), decide_eq_false (by omega)]; rfl
      · rw [brF (decide_eq_false e)]; rfl
    · rw [brT (b := (nd a : Int) != (nd b : Int)) (bne_iff_ne.2 (by omega))]
      have : decide ((nd a : Int) < (nd b : Int)) = decide (a < b) := decide_eq_decide.2 ⟨fun h => nd_less (by omega), fun h1 => by have := nd_mono (Nat.le_of_lt h1); omega⟩
      rw [this]; rfl)) (lvL_ok a b)
-- plus
noncomputable abbrev loopP1 : Code := (loopBodies (bodyOf Tryz.f114)).headD .skip
def outN (k : Nat) : AV := match k with | 0 => .nilslice | k + 1 => .vec 2 (k + 1)
def objN (k : Nat) (l : List Int) : Option PObj := match k with | 0 => none | k + 1 => some (.vecI .i64 l 3)
def tA : Tab := [(115, eAtN)]
theorem tA_ok : TabOK Tryz.prog tA := .cons eAtN_ok .nil
def sP (z : Nat) (a b : Nat) (k : Nat) (l : List Int) (c i : Int) : PState := ⟨some (.dsl 0 (nd a)) :: some (.dsl 1 (nd b)) :: none :: none :: none :: some (outN k) :: some (.int .i64 c) :: some (.int .i64 i) :: nn z, mem2 a b (objN k l)⟩
def sPX (z : Nat) (a b : Nat) (k : Nat) (l : List Int) : PState := ⟨none :: none :: none :: none :: none :: some (outN k) :: nn z, mem2 a b (objN k l)⟩
def okA (a : Nat) (i : Int) : Bool := decide (nd a ≤ (dg a).length ∧ 0 ≤ i)
def sumI (a b : Nat) (c i : Int) : Int := IntKind.i64.wrap (IntKind.i64.wrap (atF (dg a) (nd a) i + atF (dg b) (nd b) i) + c)
def bodyP {α : Type} (a b : Nat) (cs : List Bool) (c i : Int) (nx : Int → Int → Int → Option α) : Option α := chks (chks (nx ((sumI a b c i).tmod 10) (IntKind.i64.wrap ((sumI a b c i).tdiv 10)) (up1 i)) cs) [okA a i, okA b i]
def roundP {α : Type} (a b : Nat) (cs : List Bool) (c i : Int) (nx : Int → Int → Int → Option α) (ex : Option α) : Option α :=
  bcond (decide (i < (nd a : Int))) (bodyP a b cs c i nx) (bcond (decide (i < (nd b : Int))) (bodyP a b cs c i nx) (bcond (decide (c > 0)) (bodyP a b cs c i nx) ex))
theorem rP0 (a b : Nat) (l : List Int) (c i : Int) : code (ent Tryz.prog tA nolv 64 1 20) Tryz.prog {} 2 64 1 loopP1 (sP 35 a b 0 l c i) (endK 2 64 (fun n => hasN [0, 1, 5, 6, 7] n) (fun n => hasN [5] n))
  = roundP a b [] c i (fun d c i => some (.normal, sP 35 a b 1 [d] c i)) (some (.exit 0, sPX 37 a b 0 l)) := by kernel_rfl
theorem rPV (a b k : Nat) (l : List Int) (c i : Int) : code (ent Tryz.prog tA nolv 64 1 20) Tryz.prog {} 2 64 1 loopP1 (sP 35 a b (k + 1) l c i) (endK 2 64 (fun n => hasN [0, 1, 5, 6, 7] n) (fun n => hasN [5] n))
  = roundP a b [decide (l.length = (k + 1) * 1) && roomB (k + 1 + 1) 8] c i (fun d c i => some (.normal, sP 35 a b (k + 1 + 1) (l ++ [d]) c i)) (some (.exit 0, sPX 37 a b (k + 1) l)) := by kernel_rfl
theorem bodyP_ok {α : Type} {a b k : Nat} {cs : List Bool} {nx : Int → Int → Int → Option α} (hk : k < 1000000000) (hc : ∀ x ∈ cs, x = true) : bodyP a b cs ((carryP a b k : Nat) : Int) (k : Int) nx = nx (((a + b) / 10 ^ k % 10 : Nat) : Int) ((carryP a b (k + 1) : Nat) : Int) ((k + 1 : Nat) : Int) := by
  have h1 := carryP_le (a := a) (b := b) (i := k)
  have e : sumI a b ((carryP a b k : Nat) : Int) (k : Int) = ((a / 10 ^ k % 10 + b / 10 ^ k % 10 + carryP a b k : Nat) : Int) := by
    unfold sumI
    rw [atF_dg, atF_dg]
    have h2 : a / 10 ^ k % 10 < 10 := Nat.mod_lt _ (by decide)
    have h3 : b / 10 ^ k % 10 < 10 := Nat.mod_lt _ (by decide)
    have w : IntKind.i64.wrap (((a / 10 ^ k % 10 : Nat) : Int) + ((b / 10 ^ k % 10 : Nat) : Int)) = ((a / 10 ^ k % 10 : Nat) : Int) + ((b / 10 ^ k % 10 : Nat) : Int) := i64_in (by omega) (by omega)
    rw [w, i64_in (by omega) (by omega)]; omega
  have e1 : (((a / 10 ^ k % 10 + b / 10 ^ k % 10 + carryP a b k : Nat) : Int)).tmod 10 = (((a + b) / 10 ^ k % 10 : Nat) : Int) := plusD
  have e2 : (((a / 10 ^ k % 10 + b / 10 ^ k % 10 + carryP a b k : Nat) : Int)).tdiv 10 = ((carryP a b (k + 1) : Nat) : Int) := plusC
  have h4 := carryP_le (a := a) (b := b) (i := k + 1)
  unfold bodyP
  rw [chks_true (bs := [okA a k, okA b k]) (all2 (dg_ok a k) (dg_ok b k)), chks_true hc, e, e1, e2, i64_in (n := ((carryP a b (k + 1) : Nat) : Int)) (by omega) (by omega), up1_nat (by omega)]
theorem roundP_ok {α : Type} {a b k : Nat} {cs : List Bool} {nx : Int → Int → Int → Option α} {ex : Option α} (hk : k < 1000000000) (hc : ∀ x ∈ cs, x = true) : roundP a b cs ((carryP a b k : Nat) : Int) (k : Int) nx ex = if k < nd a ∨ k < nd b ∨ 0 < carryP a b k then nx (((a + b) / 10 ^ k % 10 : Nat) : Int) ((carryP a b (k + 1) : Nat) : Int) ((k + 1 : Nat) : Int) else ex := by
  unfold roundP
  rw [bodyP_ok hk hc]
  by_cases h1 : k < nd a
  · rw [bcT (decide_eq_true (by omega)), if_pos (.inl h1)]
  · rw [bcF (decide_eq_false (by omega))]
    by_cases h2 : k < nd b
    · rw [bcT (decide_eq_true (by omega)), if_pos (.inr (.inl h2))]
    · rw [bcF (decide_eq_false (by omega))]
      by_cases h3 : 0 < carryP a b k
      · rw [bcT (decide_eq_true (by omega)), if_pos (.inr (.inr h3))]
      · rw [bcF (decide_eq_false (by omega)), if_neg (by omega)]
theorem loopP {a b : Nat} (ha : nd a < 1000000) (hb : nd b < 1000000) : Tri Tryz.prog (.loop loopP1) (sP 35 a b 0 [] 0 0).toA (.exit 0) (sPX 37 a b (pl a b) (dN (pl a b) (a + b))).toA 2 := by
  have hp := pl_ge (a := a) (b := b)
  have key := loop_rounds (ent_sound (T := tA) tA_ok host nolv_ok (NF := 64) (m := 1) 20) (NF := 64) (m := 1) (x := loopP1) (K := 2) loops_none (fun n => hasN [0, 1, 5, 6, 7] n) (fun n => hasN [5] n) (ι := { k : Nat // k ≤ pl a b })
    (fun k => sP 35 a b k.1 (dN k.1 (a + b)) ((carryP a b k.1 : Nat) : Int) (k.1 : Int)) (fun k => pl a b - k.1) (fun _ => (.exit 0, sPX 37 a b (pl a b) (dN (pl a b) (a + b)))) ?_ (fun _ => by simp) ⟨0, Nat.zero_le _⟩
  · rw [carryP_zero] at key; exact key
  rintro ⟨k, hk⟩
  simp only
  by_cases h : k < pl a b
  · refine .inl ⟨⟨k + 1, h⟩, by simp only; omega, trivial, ?_⟩
    simp only
    rw [dN_succ]
    cases k with
    | zero => exact (rP0 a b _ _ _).trans ((roundP_ok (by omega) (by simp)).trans (by rw [if_pos (pl_go h)]; rfl))
    | succ k => exact (rPV a b k _ _ _).trans ((roundP_ok (by omega) (all1 (by rw [dN_length, decide_eq_true (by omega), Bool.true_and]; exact roomB_small (by omega)))).trans (by rw [if_pos (pl_go h)]))
  · refine .inr ?_
    have e : k = pl a b := by omega
    subst e
    have hn : ¬ (pl a b < nd a ∨ pl a b < nd b ∨ 0 < carryP a b (pl a b)) := by have := pl_carry (a := a) (b := b); omega
    generalize pl a b = k at hn hk hp
    cases k with
    | zero => exact (rP0 a b _ _ _).trans ((roundP_ok (by omega) (by simp)).trans (by rw [if_neg hn]))
    | succ k => exact (rPV a b k _ _ _).trans ((roundP_ok (by omega) (all1 (by rw [dN_length, decide_eq_true (by omega), Bool.true_and]; exact roomB_small (by omega)))).trans (by rw [if_neg hn]))
def aP (a b k : Nat) (l : List Int) : LAns := .chk (decide (nd a < 1000000 ∧ nd b < 1000000)) (.chk (decide (k = pl a b ∧ l = dN k (a + b))) (.out (.exit 0) (sPX 37 a b k l)))
theorem aP_ok (a b k : Nat) (l : List Int) : LAnsOK Tryz.prog loopP1 2 (sP 35 a b 0 [] 0 0) (aP a b k l) := ⟨fun g => ⟨fun g2 => by
  obtain ⟨rfl, rfl⟩ := of_decide_eq_true g2; have g := of_decide_eq_true g; exact loopP g.1 g.2, fun _ => trivial⟩, fun _ => trivial⟩
noncomputable def lvP (a b k : Nat) (l : List Int) : FuncId → Lv := lvOf 114 (fun _ => some [0, 1, 5, 6, 7]) (oneL 4 (eAt 2 (sP 35 a b 0 [] 0 0) (aP a b k l)))
theorem lvP_ok (a b k : Nat) (l : List Int) : LvOK Tryz.prog (lvP a b k l) := lvOne_ok (x := loopP1) Tryz.func114 (by kernel_rfl) fun K t => eAt_ok (aP_ok a b k l) K t
def tAT : Tab := (101, eTrim) :: tA
theorem tAT_ok : TabOK Tryz.prog tAT := .cons eTrim_ok tA_ok
/-- What comes of digits laid one behind the other, and trimmed. -/
def xTr (a b k : Nat) (l : List Int) : Ans := match k with
  | 0 => .ret .nilslice (two a b)
  | k + 1 => .chk (decide (k + 1 ≤ l.length ∧ l.length < 1099511627776)) (.ret (.vec 2 (trimN l (k + 1))) (two a b ++ [.vecI .i64 l 3]))
theorem plus_0 (a b : Nat) (l : List Int) : Comes tAT (lvP a b 0 l) 114 [.dsl 0 (nd a), .dsl 1 (nd b)] (two a b) (.chk (eqSt (sP 35 a b 0 [] 0 0) (sP 35 a b 0 [] 0 0)) (.chk (decide (nd a < 1000000 ∧ nd b < 1000000)) (.chk (decide (0 = pl a b ∧ l = dN 0 (a + b))) (xTr a b 0 l)))) := by unfold Comes; kernel_rfl
theorem plus_V (a b k : Nat) (l : List Int) : Comes tAT (lvP a b (k + 1) l) 114 [.dsl 0 (nd a), .dsl 1 (nd b)] (two a b) (.chk (eqSt (sP 35 a b 0 [] 0 0) (sP 35 a b 0 [] 0 0)) (.chk (decide (nd a < 1000000 ∧ nd b < 1000000)) (.chk (decide (k + 1 = pl a b ∧ l = dN (k + 1) (a + b))) (xTr a b (k + 1) l)))) := by unfold Comes; kernel_rfl
/-- A function whose digits are laid and trimmed hands back a number. -/
theorem meets_tr {f : FuncId} {a b k s : Nat} (hk : nd s ≤ k) (hk2 : k < 1000000000) (h : ∀ res post, (xTr a b k (dN k s)).run pure2 = some (res, post) → Meets Tryz.prog f [.dsl 0 (nd a), .dsl 1 (nd b)] [FL a, FL b] res (post.map PObj.toA)) : Meets Tryz.prog f [.dsl 0 (nd a), .dsl 1 (nd b)] [FL a, FL b] (.dsl 2 (nd s)) [FL a, FL b, FT s] := by
  cases k with
  | zero =>
    have e : nd s = 0 := by omega
    have h := h _ _ rfl
    have e2 : dg s = [] := by rw [dg, e, dN_zero]
    rw [FT, e2, e]
    exact meets_sealNil h (by simp [two]) fun E E' x hx _ h2 => den_nil hx h2
  | succ k =>
    have h := h _ _ (chkT (decide_eq_true ⟨by rw [dN_length]; exact Nat.le_refl _, by rw [dN_length]; omega⟩))
    rw [trimN_dN (k + 1) (Nat.le_refl _) hk] at h
    exact meets_sealI h (j := 2) rfl (by simp) (fun E x hx => den_seal hx) (take_dN hk)
theorem plus_meets (a b : Nat) (ha : nd a < 1000000) (hb : nd b < 1000000) : Meets Tryz.prog 114 [.dsl 0 (nd a), .dsl 1 (nd b)] [FL a, FL b] (.dsl 2 (nd (a + b))) [FL a, FL b, FT (a + b)] := by
  have hp := pl_ge (a := a) (b := b)
  refine meets_tr (k := pl a b) pl_end (by omega) fun res post hr => ?_
  cases hk : pl a b with
  | zero => rw [hk] at hr; exact meets_ent (T := tAT) (pre := two a b) tAT_ok host ((plus_0 a b _).trans (by rw [chkT (eqSt_refl _), chkT (decide_eq_true ⟨ha, hb⟩), chkT (decide_eq_true ⟨hk.symm, rfl⟩)]; exact hr)) (lvP_ok a b 0 (dN 0 (a + b)))
  | succ k => rw [hk] at hr; exact meets_ent (T := tAT) (pre := two a b) tAT_ok host ((plus_V a b k _).trans (by rw [chkT (eqSt_refl _), chkT (decide_eq_true ⟨ha, hb⟩), chkT (decide_eq_true ⟨hk.symm, rfl⟩)]; exact hr)) (lvP_ok a b (k + 1) (dN (k + 1) (a + b)))
-- minus
noncomputable abbrev loopM1 : Code := (loopBodies (bodyOf Tryz.f136)).headD .skip
def difI (a b : Nat) (c i : Int) : Int := IntKind.i64.wrap (IntKind.i64.wrap (gN (dg a) i - atF (dg b) (nd b) i) - c)
def roundM {α : Type} (a b : Nat) (cs : List Bool) (c i : Int) (nx : Int → Int → Int → Option α) (ex : Option α) : Option α :=
  bcond (decide (i < (nd a : Int))) (chks (chks (bcond (decide (difI a b c i < 0)) (chks (nx (IntKind.i64.wrap (difI a b c i + 10)) 1 (up1 i)) cs) (chks (nx (difI a b c i) 0 (up1 i)) cs)) [okA b i]) [ixN i (nd a), lnN i (dg a)]) ex
theorem rM0 (a b : Nat) (l : List Int) (c i : Int) : code (ent Tryz.prog tA nolv 64 1 20) Tryz.prog {} 2 64 1 loopM1 (sP 27 a b 0 l c i) (endK 2 64 (fun n => hasN [0, 1, 5, 6, 7] n) (fun n => hasN [5] n))
  = roundM a b [] c i (fun d c i => some (.normal, sP 27 a b 1 [d] c i)) (some (.exit 0, sPX 29 a b 0 l)) := by kernel_rfl
theorem rMV (a b k : Nat) (l : List Int) (c i : Int) : code (ent Tryz.prog tA nolv 64 1 20) Tryz.prog {} 2 64 1 loopM1 (sP 27 a b (k + 1) l c i) (endK 2 64 (fun n => hasN [0, 1, 5, 6, 7] n) (fun n => hasN [5] n))
  = roundM a b [decide (l.length = (k + 1) * 1) && roomB (k + 1 + 1) 8] c i (fun d c i => some (.normal, sP 27 a b (k + 1 + 1) (l ++ [d]) c i)) (some (.exit 0, sPX 29 a b (k + 1) l)) := by kernel_rfl
theorem roundM_ok {α : Type} {a b k : Nat} {cs : List Bool} {nx : Int → Int → Int → Option α} {ex : Option α} (hab : b ≤ a) (hk : k < 1000000000) (hc : ∀ x ∈ cs, x = true) : roundM a b cs ((borrow a b k : Nat) : Int) (k : Int) nx ex = if k < nd a then nx (((a - b) / 10 ^ k % 10 : Nat) : Int) ((borrow a b (k + 1) : Nat) : Int) ((k + 1 : Nat) : Int) else ex := by
  unfold roundM
  by_cases h : k < nd a
  · have h1 := borrow_le (a := a) (b := b) (i := k)
    have h2 : a / 10 ^ k % 10 < 10 := Nat.mod_lt _ (by decide)
    have h3 : b / 10 ^ k % 10 < 10 := Nat.mod_lt _ (by decide)
    have e : difI a b ((borrow a b k : Nat) : Int) (k : Int) = ((a / 10 ^ k % 10 : Nat) : Int) - ((b / 10 ^ k % 10 : Nat) : Int) - ((borrow a b k : Nat) : Int) := by
      unfold difI
      have w : IntKind.i64.wrap (((a / 10 ^ k % 10 : Nat) : Int) - ((b / 10 ^ k % 10 : Nat) : Int)) = ((a / 10 ^ k % 10 : Nat) : Int) - ((b / 10 ^ k % 10 : Nat) : Int) := i64_in (by omega) (by omega)
      rw [atF_dg, gN_nat, dg_getD, w, i64_in (by omega) (by omega)]
    rw [bcT (decide_eq_true (by omega)), if_pos h, chks_true (bs := [ixN k (nd a), lnN k (dg a)]) (all2 (ixN_nat h) (lnN_nat (by rw [dg_length]; exact h))), chks_true (bs := [okA b k]) (all1 (dg_ok b k)), e, chks_true hc, chks_true hc, up1_nat (by omega)]
    by_cases hn : ((a / 10 ^ k % 10 : Nat) : Int) - ((b / 10 ^ k % 10 : Nat) : Int) - ((borrow a b k : Nat) : Int) < 0
    · rw [bcT (decide_eq_true hn), i64_in (by omega) (by omega), minusD_neg hab hn, ← minusC_neg hn]
    · rw [bcF (decide_eq_false hn), minusD_pos hab hn, ← minusC_pos hn]
  · rw [bcF (decide_eq_false (by omega)), if_neg h]
theorem loopM {a b : Nat} (ha : nd a < 1000000) (hab : b ≤ a) : Tri Tryz.prog (.loop loopM1) (sP 27 a b 0 [] 0 0).toA (.exit 0) (sPX 29 a b (nd a) (dN (nd a) (a - b))).toA 2 := by
  have key := loop_rounds (ent_sound (T := tA) tA_ok host nolv_ok (NF := 64) (m := 1) 20) (NF := 64) (m := 1) (x := loopM1) (K := 2) loops_none (fun n => hasN [0, 1, 5, 6, 7] n) (fun n => hasN [5] n) (ι := { k : Nat // k ≤ nd a })
    (fun k => sP 27 a b k.1 (dN k.1 (a - b)) ((borrow a b k.1 : Nat) : Int) (k.1 : Int)) (fun k => nd a - k.1) (fun _ => (.exit 0, sPX 29 a b (nd a) (dN (nd a) (a - b)))) ?_ (fun _ => by simp) ⟨0, Nat.zero_le _⟩
  · rw [borrow_zero] at key; exact key
  rintro ⟨k, hk⟩
  simp only
  by_cases h : k < nd a
  · refine .inl ⟨⟨k + 1, h⟩, by simp only; omega, trivial, ?_⟩
    simp only
    rw [dN_succ]
    cases k with
    | zero => exact (rM0 a b _ _ _).trans ((roundM_ok hab (by omega) (by simp)).trans (by rw [if_pos h]; rfl))
    | succ k => exact (rMV a b k _ _ _).trans ((roundM_ok hab (by omega) (all1 (by rw [dN_length, decide_eq_true (by omega), Bool.true_and]; exact roomB_small (by omega)))).trans (by rw [if_pos h]))
  · refine .inr ?_
    have e : k = nd a := by omega
    rw [← e]
    cases k with
    | zero => exact (rM0 a b _ _ _).trans ((roundM_ok hab (by omega) (by simp)).trans (by rw [if_neg h]))
    | succ k => exact (rMV a b k _ _ _).trans ((roundM_ok hab (by omega) (all1 (by rw [dN_length, decide_eq_true (by omega), Bool.true_and]; exact roomB_small (by omega)))).trans (by rw [if_neg h]))
def aM (a b k : Nat) (l : List Int) : LAns := .chk (decide (nd a < 1000000 ∧ b ≤ a)) (.chk (decide (k = nd a ∧ l = dN k (a - b))) (.out (.exit 0) (sPX 29 a b k l)))
theorem aM_ok (a b k : Nat) (l : List Int) : LAnsOK Tryz.prog loopM1 2 (sP 27 a b 0 [] 0 0) (aM a b k l) := ⟨fun g => ⟨fun g2 => by
  obtain ⟨rfl, rfl⟩ := of_decide_eq_true g2; have g := of_decide_eq_true g; exact loopM g.1 g.2, fun _ => trivial⟩, fun _ => trivial⟩
noncomputable def lvM (a b k : Nat) (l : List Int) : FuncId → Lv := lvOf 136 (fun _ => some [0, 1, 5, 6, 7]) (oneL 4 (eAt 2 (sP 27 a b 0 [] 0 0) (aM a b k l)))
theorem lvM_ok (a b k : Nat) (l : List Int) : LvOK Tryz.prog (lvM a b k l) := lvOne_ok (x := loopM1) Tryz.func136 (by kernel_rfl) fun K t => eAt_ok (aM_ok a b k l) K t
theorem minus_0 (a b : Nat) (l : List Int) : Comes tAT (lvM a b 0 l) 136 [.dsl 0 (nd a), .dsl 1 (nd b)] (two a b) (.chk (eqSt (sP 27 a b 0 [] 0 0) (sP 27 a b 0 [] 0 0)) (.chk (decide (nd a < 1000000 ∧ b ≤ a)) (.chk (decide (0 = nd a ∧ l = dN 0 (a - b))) (xTr a b 0 l)))) := by unfold Comes; kernel_rfl
theorem minus_V (a b k : Nat) (l : List Int) : Comes tAT (lvM a b (k + 1) l) 136 [.dsl 0 (nd a), .dsl 1 (nd b)] (two a b) (.chk (eqSt (sP 27 a b 0 [] 0 0) (sP 27 a b 0 [] 0 0)) (.chk (decide (nd a < 1000000 ∧ b ≤ a)) (.chk (decide (k + 1 = nd a ∧ l = dN (k + 1) (a - b))) (xTr a b (k + 1) l)))) := by unfold Comes; kernel_rfl
theorem minus_meets (a b : Nat) (ha : nd a < 1000000) (hab : b ≤ a) : Meets Tryz.prog 136 [.dsl 0 (nd a), .dsl 1 (nd b)] [FL a, FL b] (.dsl 2 (nd (a - b))) [FL a, FL b, FT (a - b)] := by
  refine meets_tr (k := nd a) minus_end (by omega) fun res post hr => ?_
  by_cases h0 : nd a = 0
  · have hk := h0; rw [hk] at hr; exact meets_ent (T := tAT) (pre := two a b) tAT_ok host ((minus_0 a b _).trans (by rw [chkT (eqSt_refl _), chkT (decide_eq_true ⟨ha, hab⟩), chkT (decide_eq_true ⟨hk.symm, rfl⟩)]; exact hr)) (lvM_ok a b 0 (dN 0 (a - b)))
  · obtain ⟨k, hk⟩ := Nat.exists_eq_succ_of_ne_zero h0
    rw [hk] at hr; exact meets_ent (T := tAT) (pre := two a b) tAT_ok host ((minus_V a b k _).trans (by rw [chkT (eqSt_refl _), chkT (decide_eq_true ⟨ha, hab⟩), chkT (decide_eq_true ⟨hk.symm, rfl⟩)]; exact hr)) (lvM_ok a b (k + 1) (dN (k + 1) (a - b)))
end Go.Proofs.YtdomenmfkbfakaaGreatDoor

/- The document's whole numbers by their digits: ten, value, lowest. -/
set_option linter.unusedVariables false
set_option linter.unusedSimpArgs false
namespace Go.Proofs.YtdomenmfkbfakaaGreatDoor
open Go Sx Rf Rr Dq
-- ten
def mxI (n : Int) : Int := if 0 > n then 0 else n
def mkT (m : Int) : Bool := decide (0 ≤ m ∧ m ≤ m ∧ m * ((8 : Nat) : Int) ≤ 281474976710656 ∧ m < 9223372036854775808)
def apT (l : List Int) (k : Nat) (m : Int) : Bool := decide (k ≤ l.length) && decide (0 + m.toNat ≤ (List.replicate m.toNat (0 : Int)).length) && Nat.beq m.toNat m.toNat && decide (0 < k) && roomB (m.toNat + k) 8
theorem ten_comes (l : List Int) (k : Nat) (n : Int) : Comes [] nolv 85 [.dsl 0 k, .int .i64 n] [.flatI false l]
  (.br ((k : Int) == 0) (.ret .nilslice [.flatI false l]) (.chk (mkT (mxI n)) (.chk (apT l k (mxI n)) (.ret (.vec 1 ((mxI n).toNat + k)) [.flatI false l, .vecI .i64 (List.take (mxI n).toNat (List.drop 0 (List.replicate (mxI n).toNat 0)) ++ List.take k l) 3])))) := by unfold Comes; kernel_rfl
theorem ten_meets (a : Nat) (n : Int) (ha : nd a < 1000000) (hn : -1000000 < n ∧ n < 1000000) : Meets Tryz.prog 85 [.dsl 0 (nd a), .int .i64 n] [FL a] (.dsl 1 (nd (a * 10 ^ n.toNat))) [FL a, FT (a * 10 ^ n.toNat)] := by
  by_cases h0 : nd a = 0
  · have e : a = 0 := nd_eq_zero h0
    have h : Meets Tryz.prog 85 [.dsl 0 (nd a), .int .i64 n] [FL a] .nilslice [FL a] := meets_ent (T := []) (pre := [.flatI false (dg a)]) (post := [.flatI false (dg a)]) .nil host ((ten_comes (dg a) (nd a) n).trans (by rw [brT (by rw [h0]; rfl)]; rfl))
    have e2 : a * 10 ^ n.toNat = 0 := by rw [e, Nat.zero_mul]
    rw [e2, FT, dg_zero, nd_zero]
    exact meets_sealNil h (Nat.le_refl _) fun E E' x hx _ h2 => den_nil hx h2
  · have hp : 0 < a := ten_pos (by omega)
    have em : (mxI n).toNat = n.toNat ∧ 0 ≤ mxI n ∧ mxI n < 1000000 := by unfold mxI; split <;> omega
    have ek : (mxI n).toNat + nd a = nd (a * 10 ^ n.toNat) := by rw [nd_ten hp, em.1]; omega
    have el : List.take (mxI n).toNat (List.drop 0 (List.replicate (mxI n).toNat 0)) ++ List.take (nd a) (dg a) = dg (a * 10 ^ n.toNat) := by
      rw [List.drop_zero, List.take_of_length_le (by rw [List.length_replicate]; exact Nat.le_refl _), List.take_of_length_le (by rw [dg_length]; exact Nat.le_refl _), em.1]; exact dg_ten hp
    have h : Meets Tryz.prog 85 [.dsl 0 (nd a), .int .i64 n] [FL a] (.vec 1 (nd (a * 10 ^ n.toNat))) [FL a, .vec (ints .i64 (dg (a * 10 ^ n.toNat))) 3 1] := meets_ent (T := []) (pre := [.flatI false (dg a)]) (post := [.flatI false (dg a), .vecI .i64 (dg (a * 10 ^ n.toNat)) 3]) .nil host ((ten_comes (dg a) (nd a) n).trans (by
      rw [brF (beq_eq_false_iff_ne.2 (by omega)), chkT (b := mkT (mxI n)) (decide_eq_true (by omega)), chkT (by
        unfold apT
        rw [decide_eq_true (show nd a ≤ (dg a).length by rw [dg_length]; exact Nat.le_refl _), decide_eq_true (show 0 + (mxI n).toNat ≤ (List.replicate (mxI n).toNat (0 : Int)).length by rw [List.length_replicate]; omega), Nat.beq_refl, decide_eq_true (show 0 < nd a by omega), roomB_small (by omega)]; rfl), ek, el]; rfl))
    exact meets_sealI h (j := 1) rfl (by simp) (fun E x hx => den_seal hx) (List.take_length ..)
-- value
noncomputable abbrev loopV1 : Code := (loopBodies (bodyOf Tryz.f117)).headD .skip
def sV (a : Nat) (n i : Int) : PState := ⟨some (.dsl 0 (nd a)) :: none :: none :: some (.int .i64 n) :: some (.int .i64 i) :: nn 15, some (.flatI false (dg a)) :: nn 64⟩
def sVX (a : Nat) (n : Int) : PState := ⟨none :: none :: none :: some (.int .i64 n) :: nn 16, some (.flatI false (dg a)) :: nn 64⟩
theorem rV (a : Nat) (n i : Int) : code (ent Tryz.prog [] nolv 64 1 20) Tryz.prog {} 1 64 1 loopV1 (sV a n i) (endK 1 64 (fun n => hasN [0, 3, 4] n) (fun n => hasN [3] n))
  = bcond (decide (i ≥ 0)) (chks (some (.normal, sV a (IntKind.i64.wrap (IntKind.i64.wrap (10 * n) + gN (dg a) i)) (dwn i))) [ixN i (nd a), lnN i (dg a)]) (some (.exit 0, sVX a n)) := by kernel_rfl
theorem loopV {a : Nat} (hl : nd a < 1000000) (ha : a < 1000000000000000000) : Tri Tryz.prog (.loop loopV1) (sV a 0 ((nd a : Int) - 1)).toA (.exit 0) (sVX a (a : Int)).toA 1 := by
  have key := loop_rounds (ent_sound (T := []) .nil host nolv_ok (NF := 64) (m := 1) 20) (NF := 64) (m := 1) (x := loopV1) (K := 1) loops_none (fun n => hasN [0, 3, 4] n) (fun n => hasN [3] n) (ι := { j : Nat // j ≤ nd a }) (fun j => sV a ((a / 10 ^ j.1 : Nat) : Int) ((j.1 : Int) - 1)) (fun j => j.1) (fun _ => (.exit 0, sVX a (a : Int))) ?_ (fun _ => by simp) ⟨nd a, Nat.le_refl _⟩
  · rw [nd_div] at key; exact key
  rintro ⟨j, hj⟩
  simp only
  cases j with
  | zero => exact .inr ((rV a _ _).trans (by rw [bcF (decide_eq_false (by omega)), Nat.pow_zero, Nat.div_one]))
  | succ j =>
    have e : ((j + 1 : Nat) : Int) - 1 = (j : Int) := by omega
    have hd : dwn (j : Int) = (j : Int) - 1 := by unfold dwn; exact i64_in (by omega) (by omega)
    have h1 : a / 10 ^ j ≤ a := Nat.div_le_self _ _
    have h2 := div_top (a := a) (k := j)
    have w : IntKind.i64.wrap (10 * ((a / 10 ^ (j + 1) : Nat) : Int)) = 10 * ((a / 10 ^ (j + 1) : Nat) : Int) := i64_in (by omega) (by omega)
    have w2 : IntKind.i64.wrap (10 * ((a / 10 ^ (j + 1) : Nat) : Int) + ((a / 10 ^ j % 10 : Nat) : Int)) = ((a / 10 ^ j : Nat) : Int) := by rw [i64_in (by omega) (by omega)]; omega
    refine .inl ⟨⟨j, by omega⟩, by simp only; omega, trivial, ?_⟩
    rw [e]
    refine (rV a _ _).trans ?_
    rw [bcT (decide_eq_true (by omega)), chks_true (all2 (ixN_nat (by omega)) (lnN_nat (by rw [dg_length]; omega))), gN_nat, dg_getD, w, w2, hd]
def aV (a : Nat) : LAns := .chk (decide (nd a < 1000000 ∧ a < 1000000000000000000)) (.out (.exit 0) (sVX a (a : Int)))
theorem aV_ok (a : Nat) : LAnsOK Tryz.prog loopV1 1 (sV a 0 ((nd a : Int) - 1)) (aV a) := ⟨fun g => let g := of_decide_eq_true g; loopV g.1 g.2, fun _ => trivial⟩
noncomputable def lvV (a : Nat) : FuncId → Lv := lvOf 117 (fun _ => some [0, 3, 4]) (oneL 3 (eAt 1 (sV a 0 ((nd a : Int) - 1)) (aV a)))
theorem lvV_ok (a : Nat) : LvOK Tryz.prog (lvV a) := lvOne_ok (x := loopV1) Tryz.func117 (by kernel_rfl) fun K t => eAt_ok (aV_ok a) K t
theorem value_comes (a : Nat) : Comes [] (lvV a) 117 [.dsl 0 (nd a)] [.flatI false (dg a)] (.chk (eqSt (sV a 0 (dwn (nd a))) (sV a 0 ((nd a : Int) - 1))) (.chk (decide (nd a < 1000000 ∧ a < 1000000000000000000)) (.ret (.int .i64 (a : Int)) [.flatI false (dg a)]))) := by unfold Comes; kernel_rfl
theorem value_meets (a : Nat) (hl : nd a < 1000000) (ha : a < 1000000000000000000) : Meets Tryz.prog 117 [.dsl 0 (nd a)] [FL a] (.int .i64 ((a : Nat) : Int)) [FL a] :=
  meets_ent (T := []) (pre := [.flatI false (dg a)]) (post := [.flatI false (dg a)]) .nil host ((value_comes a).trans (by
    rw [chkT (by rw [show dwn (nd a) = (nd a : Int) - 1 from i64_in (by omega) (by omega)]; exact eqSt_refl _), chkT (decide_eq_true ⟨hl, ha⟩)]; rfl)) (lvV_ok a)
-- lowest
noncomputable abbrev loopW1 : Code := (loopBodies (bodyOf Tryz.f116)).headD .skip
def memW : List (Option PObj) := some (.raw (.cells [.int .i64 0, .int .i64 0] 23)) :: nn 64
def sW (m e : Int) : PState := ⟨some (.int .i64 m) :: some (.int .i64 e) :: none :: none :: some (.ptr 0 0) :: nn 17, memW⟩
theorem rW (m e : Int) : code (ent Tryz.prog [] nolv 64 1 20) Tryz.prog {} 0 64 1 loopW1 (sW m e) (endK 0 64 (fun n => hasN [0, 1, 4] n) (fun n => hasN [0, 1, 4] n))
  = bcond (m.tmod 10 == 0) (bcond (decide (e < 9)) (some (.normal, sW (IntKind.i64.wrap (m.tdiv 10)) (up1 e))) (some (.exit 0, sW m e))) (some (.exit 0, sW m e)) := by kernel_rfl
theorem loopW : ∀ (n : Nat) (m e : Int), e + n = 9 → inI m = true → -100 ≤ e → Tri Tryz.prog (.loop loopW1) (sW m e).toA (.exit 0) (sW (trimD n m e).1 (trimD n m e).2).toA 0 := fun n m e he hm h0 => by
  refine loop_rounds (ent_sound (T := []) .nil host nolv_ok (NF := 64) (m := 1) 20) (NF := 64) (m := 1) (x := loopW1) (K := 0) loops_none (fun n => hasN [0, 1, 4] n) (fun n => hasN [0, 1, 4] n) (ι := { p : Nat × Int × Int // p.2.2 + p.1 = 9 ∧ inI p.2.1 = true ∧ -100 ≤ p.2.2 }) (fun p => sW p.1.2.1 p.1.2.2) (fun p => p.1.1) (fun p => (.exit 0, sW (trimD p.1.1 p.1.2.1 p.1.2.2).1 (trimD p.1.1 p.1.2.1 p.1.2.2).2)) ?_ (fun _ => by simp) ⟨(n, m, e), he, hm, h0⟩
  rintro ⟨⟨n, m, e⟩, h1, h2, h3⟩
  simp only at h1 h2 h3 ⊢
  have hi := inI_iff.1 h2
  have ht := tdiv10 hi
  by_cases hq : m.tmod 10 = 0
  · cases n with
    | zero => exact .inr ((rW m e).trans (by rw [bcT (beq_iff_eq.2 hq), bcF (decide_eq_false (by omega))]; rfl))
    | succ n =>
      refine .inl ⟨⟨(n, m.tdiv 10, e + 1), by simp only; omega, inI_iff.2 ht, by simp only; omega⟩, Nat.lt_succ_self n, by simp only [trimD, hq, if_true], ?_⟩
      refine (rW m e).trans ?_
      rw [bcT (beq_iff_eq.2 hq), bcT (decide_eq_true (by omega)), i64_in ht.1 ht.2, show up1 e = e + 1 from i64_in (by omega) (by omega)]
  · refine .inr ((rW m e).trans ?_)
    rw [bcF (beq_eq_false_iff_ne.2 hq)]
    cases n with
    | zero => rfl
    | succ n => simp only [trimD, hq, if_false]
def aW (m e : Int) (q : Int × Int) : LAns := .chk (inI m && decide (-100 ≤ e ∧ e ≤ 9 ∧ q = trimD (9 - e).toNat m e)) (.out (.exit 0) (sW q.1 q.2))
theorem aW_ok (m e : Int) (q : Int × Int) : LAnsOK Tryz.prog loopW1 0 (sW m e) (aW m e q) := ⟨fun g => by
  rw [Bool.and_eq_true] at g
  obtain ⟨h1, h2, rfl⟩ := of_decide_eq_true g.2
  exact loopW _ m e (by omega) g.1 h1, fun _ => trivial⟩
noncomputable def lvW (m e : Int) (q : Int × Int) : FuncId → Lv := lvOf 116 (fun _ => some [0, 1, 4]) (oneL 3 (eAt 0 (sW m e) (aW m e q)))
theorem lvW_ok (m e : Int) (q : Int × Int) : LvOK Tryz.prog (lvW m e q) := lvOne_ok (x := loopW1) Tryz.func116 (by kernel_rfl) fun K t => eAt_ok (aW_ok m e q) K t
theorem lowest_comes (m e : Int) (q : Int × Int) : Comes [] (lvW m e q) 116 [.int .i64 m, .int .i64 e] [] (.br (m == 0) (.ret (.agg [.int .i64 0, .int .i64 0]) []) (.chk (eqSt (sW m e) (sW m e)) (.chk (inI m && decide (-100 ≤ e ∧ e ≤ 9 ∧ q = trimD (9 - e).toNat m e)) (.ret (.agg [.int .i64 q.1, .int .i64 q.2]) [])))) := by unfold Comes; kernel_rfl
theorem lowest_meets (m e : Int) (h : inI m = true) (he : -100 ≤ e ∧ e ≤ 9) : Meets Tryz.prog 116 [.int .i64 m, .int .i64 e] [] (.agg [.int .i64 ((trimmedS m e).1), .int .i64 ((trimmedS m e).2)]) [] :=
  meets_ent (T := []) (pre := []) (post := []) .nil host ((lowest_comes m e (trimD (9 - e).toNat m e)).trans (by
    unfold trimmedS
    by_cases h0 : m = 0
    · rw [brT (beq_iff_eq.2 h0), if_pos h0]; rfl
    · rw [brF (beq_eq_false_iff_ne.2 h0), if_neg h0, chkT (eqSt_refl _), chkT (by rw [h, Bool.true_and]; exact decide_eq_true ⟨he.1, he.2, rfl⟩)]; rfl)) (lvW_ok m e _)
end Go.Proofs.YtdomenmfkbfakaaGreatDoor

/- Whole numbers by their digits: what the document's arithmetic calls, not looked into; what is so of them. -/
set_option linter.unusedVariables false
set_option linter.unusedSimpArgs false
namespace Go.Proofs.YtdomenmfkbfakaaGreatDoor
open Go Sx Rf Dc Rr Dq
def R3 (p : Int × Int × Int) : AV := AV.tuple [AV.agg [AV.int .i64 p.1, AV.int .i64 p.2.1], AV.int .i64 p.2.2]
abbrev OX := Option (Ex × PState)
theorem at_meets (a k : Nat) : Meets Tryz.prog 115 [.dsl 0 (nd a), .int .i64 ((k : Nat) : Int)] [FL a] (.int .i64 ((a / 10 ^ k % 10 : Nat) : Int)) [FL a] := by
  have h := (eAtN_ok [.dsl 0 (nd a), .int .i64 ((k : Nat) : Int)] [.flatI false (dg a)]).1 (dg_ok a k)
  rw [← atF_dg]; exact h
/-- D: two numbers (0 plus, 1 minus, 2 times, 3 quotient, 4 remainder, 5 ten) to digits; E: whole numbers to digits (0 digits, 1 unit, 2 whole). -/
structure NumF where
  D : Nat → List Int → Nat → List Int → Nat → List Int
  kD : Nat → List Int → Nat → List Int → Nat → Nat
  okD : Nat → List Int → Nat → List Int → Nat → Bool
  T : List Int → Nat → Int → List Int
  kT : List Int → Nat → Int → Nat
  okT : List Int → Nat → Int → Bool
  E : Nat → Int → Int → List Int
  kE : Nat → Int → Int → Nat
  okE : Nat → Int → Int → Bool
  L : List Int → Nat → List Int → Nat → Bool
  okL : List Int → Nat → List Int → Nat → Bool
  A : List Int → Nat → Int → Int
  okA : List Int → Nat → Int → Bool
  V : List Int → Nat → Int
  okV : List Int → Nat → Bool
  O : Int → Int → Int × Int
  okO : Int → Int → Bool
  N : Bool → List Int → Nat → List Int → Nat → Int × Int × Int
  okN : Bool → List Int → Nat → List Int → Nat → Bool
def gD (x : NumF) (o : Nat) : Ent := fun args pre => match args, pre with
  | [.dsl 0 k, .dsl 1 k1], [.flatI f l, .flatI f1 l1] => .chk (x.okD o l k l1 k1) (.ret (.dsl 2 (x.kD o l k l1 k1)) [.flatI f l, .flatI f1 l1, .flatI true (x.D o l k l1 k1)])
  | [.dsl 0 k, .vec 1 k1], [.flatI f l, .vecI .i64 l1 t] => .chk (x.okD o l k l1 k1) (.ret (.dsl 2 (x.kD o l k l1 k1)) [.flatI f l, .vecI .i64 l1 t, .flatI true (x.D o l k l1 k1)])
  | [.dsl 0 k, .dsl 0 k1], [.flatI f l] => .chk (x.okD o l k l k1) (.ret (.dsl 1 (x.kD o l k l k1)) [.flatI f l, .flatI true (x.D o l k l k1)])
  | _, _ => .fail
def gBy (x : NumF) : Ent := fun args pre => match args, pre with
  | [.dsl 0 k, .dsl 1 k1], [.flatI f l, .flatI f1 l1] => .chk (x.okD 3 l k l1 k1) (.ret (.tuple [.dsl 2 (x.kD 3 l k l1 k1), .dsl 3 (x.kD 4 l k l1 k1)]) [.flatI f l, .flatI f1 l1, .flatI true (x.D 3 l k l1 k1), .flatI true (x.D 4 l k l1 k1)])
  | _, _ => .fail
def gT (x : NumF) : Ent := fun args pre => match args, pre with
  | [.dsl 0 k, .int .i64 n], [.flatI f l] => .chk (x.okT l k n) (.ret (.dsl 1 (x.kT l k n)) [.flatI f l, .flatI true (x.T l k n)])
  | [.vec 0 k, .int .i64 n], [.vecI .i64 l t] => .chk (x.okT l k n) (.ret (.dsl 1 (x.kT l k n)) [.vecI .i64 l t, .flatI true (x.T l k n)])
  | _, _ => .fail
def gE (x : NumF) (o : Nat) : Ent := fun args pre => match args, pre with
  | [.int .i64 n], [] => .chk (x.okE o n 0) (.ret (.dsl 0 (x.kE o n 0)) [.flatI true (x.E o n 0)])
  | _, _ => .fail
def gW (x : NumF) : Ent := fun args pre => match args, pre with
  | [.agg [.int .i64 n, .int .i64 m]], [] => .chk (x.okE 2 n m) (.ret (.dsl 0 (x.kE 2 n m)) [.flatI true (x.E 2 n m)])
  | _, _ => .fail
def gL (x : NumF) : Ent := fun args pre => match args, pre with
  | [.dsl 0 k, .dsl 1 k1], [.flatI f l, .flatI f1 l1] => .chk (x.okL l k l1 k1) (.ret (.bool (x.L l k l1 k1)) [.flatI f l, .flatI f1 l1])
  | _, _ => .fail
def gA (x : NumF) : Ent := fun args pre => match args, pre with
  | [.dsl 0 k, .int .i64 n], [.flatI f l] => .chk (x.okA l k n) (.ret (.int .i64 (x.A l k n)) [.flatI f l])
  | _, _ => .fail
def gV (x : NumF) : Ent := fun args pre => match args, pre with
  | [.dsl 0 k], [.flatI f l] => .chk (x.okV l k) (.ret (.int .i64 (x.V l k)) [.flatI f l])
  | _, _ => .fail
def gO (x : NumF) : Ent := fun args pre => match args, pre with
  | [.int .i64 n, .int .i64 m], [] => .chk (x.okO n m) (.ret (.agg [.int .i64 (x.O n m).1, .int .i64 (x.O n m).2]) [])
  | _, _ => .fail
def gN1 (x : NumF) : Ent := fun args pre => match args, pre with
  | [.bool b, .dsl 0 k, .vec 1 k1], [.flatI f l, .vecI .i64 l1 t] => .chk (x.okN b l k l1 k1) (.ret (R3 (x.N b l k l1 k1)) [.flatI f l, .vecI .i64 l1 t])
  | [.bool b, .dsl 0 k, .dsl 1 k1], [.flatI f l, .flatI f1 l1] => .chk (x.okN b l k l1 k1) (.ret (R3 (x.N b l k l1 k1)) [.flatI f l, .flatI f1 l1])
  | _, _ => .fail
theorem dN_cons0 {i n : Nat} : dN (i + 1) n = ((n % 10 : Nat) : Int) :: dN i (n / 10) := by
  simp only [dN, List.range_succ_eq_map, List.map_cons, List.map_map, Nat.pow_zero, Nat.div_one]
  congr 1
  apply List.map_congr_left
  intro j _
  simp only [Function.comp]
  rw [Nat.div_div_eq_div_mul, ← Nat.pow_succ']
def numL (l : List Int) : Nat := (val l.reverse).toNat
theorem val_dN : ∀ (i n : Nat), val (dN i n).reverse = ((n % 10 ^ i : Nat) : Int)
  | 0, n => by simp [dN, val, Nat.mod_one]
  | i + 1, n => by
    rw [dN_cons0, List.reverse_cons, val_snoc, val_dN i (n / 10)]
    have e : n % 10 ^ (i + 1) = n / 10 % 10 ^ i * 10 + n % 10 := by
      rw [Nat.pow_succ', Nat.mod_mul]; omega
    rw [e]; push_cast; omega
theorem numL_dg (n : Nat) : numL (dg n) = n := by
  unfold numL
  have : dg n = dN (nd n) n := rfl
  rw [this, val_dN, Nat.mod_eq_of_lt (lt_nd n), Int.toNat_natCast]

/-- The number in a slice's first cells. -/
def nT (l : List Int) (k : Nat) : Nat := numL (l.take k)
def isD (l : List Int) (k : Nat) : Bool := decide (l.take k = dg (nT l k) ∧ k = nd (nT l k) ∧ k ≤ 200000)
theorem isD_get {l : List Int} {k : Nat} (h : isD l k = true) : ∃ a, nT l k = a ∧ l.take (dg a).length = dg a ∧ k = nd a ∧ nd a ≤ 200000 := by
  obtain ⟨h1, h2, h3⟩ := of_decide_eq_true h
  refine ⟨_, rfl, ?_, h2, by omega⟩
  rw [dg_length, ← h2]; exact h1
theorem nT_dg (a : Nat) : nT (dg a) (nd a) = a := by
  unfold nT
  rw [List.take_of_length_le (by rw [dg_length]; omega), numL_dg]
theorem isD_dg {a : Nat} (h : nd a ≤ 200000) : isD (dg a) (nd a) = true := by
  unfold isD
  rw [nT_dg]
  exact decide_eq_true ⟨List.take_of_length_le (by rw [dg_length]; omega), rfl, h⟩
def opD : Nat → Nat → Nat → Nat
  | 0, a, b => a + b
  | 1, a, b => a - b
  | 2, a, b => a * b
  | 3, a, b => a / b
  | _, a, b => a % b
def sdD : Nat → Nat → Nat → Bool
  | 1, a, b => decide (b ≤ a)
  | 3, a, b => decide (0 < b ∧ nd a ≤ 190000 ∧ nd b ≤ 190000)
  | _, _, _ => true
def opE : Nat → Int → Int → Nat
  | 0, n, m => n.natAbs
  | 1, n, m => 1 * 10 ^ n.toNat
  | _, n, m => n.natAbs * 10 ^ (m + 9).toNat
def sdE : Nat → Int → Int → Bool
  | 0, n, m => inI n
  | 1, n, m => decide (0 ≤ n ∧ n < 1000000)
  | _, n, m => decide ((-9223372036854775808 < n ∧ n < 9223372036854775808) ∧ -9 ≤ m ∧ m ≤ 1000)
def numF (NR : Bool → Nat → Nat → Int × Int × Int) : NumF where
  D := fun o l k l1 k1 => dg (opD o (nT l k) (nT l1 k1))
  kD := fun o l k l1 k1 => nd (opD o (nT l k) (nT l1 k1))
  okD := fun o l k l1 k1 => isD l k && (isD l1 k1 && sdD o (nT l k) (nT l1 k1))
  T := fun l k n => dg (nT l k * 10 ^ n.toNat)
  kT := fun l k n => nd (nT l k * 10 ^ n.toNat)
  okT := fun l k n => isD l k && decide (-1000000 < n ∧ n < 1000000)
  E := fun o n m => dg (opE o n m)
  kE := fun o n m => nd (opE o n m)
  okE := fun o n m => sdE o n m
  L := fun l k l1 k1 => decide (nT l k < nT l1 k1)
  okL := fun l k l1 k1 => isD l k && isD l1 k1
  A := fun l k n => ((nT l k / 10 ^ n.toNat % 10 : Nat) : Int)
  okA := fun l k n => isD l k && decide (0 ≤ n ∧ n < 1000000)
  V := fun l k => ((nT l k : Nat) : Int)
  okV := fun l k => isD l k && decide (nT l k < 1000000000000000000)
  O := fun m e => trimmedS m e
  okO := fun m e => decide ((-9223372036854775808 < m ∧ m < 9223372036854775808) ∧ -100 ≤ e ∧ e ≤ 9)
  N := fun b l k l1 k1 => NR b (nT l k) (nT l1 k1)
  okN := fun b l k l1 k1 => isD l k && (isD l1 k1 && decide (k ≤ 90000 ∧ k1 ≤ 90000 ∧ 0 < nT l1 k1))
variable {NR : Bool → Nat → Nat → Int × Int × Int}
theorem gD_ok {f : FuncId} {o : Nat} (h : ∀ a b, nd a ≤ 200000 → nd b ≤ 200000 → sdD o a b = true → Meets Tryz.prog f [.dsl 0 (nd a), .dsl 1 (nd b)] [FL a, FL b] (.dsl 2 (nd (opD o a b))) [FL a, FL b, FT (opD o a b)]) : EntOK Tryz.prog f (gD (numF NR) o) := fun args pre => by
  unfold gD; split
  · rename_i k k1 m l m1 l1
    refine ⟨fun hb => ?_, fun _ => trivial⟩
    obtain ⟨h1, h2⟩ := Bool.and_eq_true_iff.1 hb
    obtain ⟨g2, h3⟩ := Bool.and_eq_true_iff.1 h2
    obtain ⟨a, ea, ta, rfl, na⟩ := isD_get h1
    obtain ⟨b, eb, tb, rfl, nb⟩ := isD_get g2
    rw [ea, eb] at h3
    show Meets _ _ _ _ (.dsl 2 (nd (opD o (nT l _) (nT l1 _)))) [_, _, AObj.flat true (ints .i64 (dg (opD o (nT l _) (nT l1 _))))]
    rw [ea, eb]
    exact meets_fitF (m' := m1) (l := l1) (meets_fitF (m' := m) (l := l) (h a b na nb h3) (j := 0) rfl ta) (j := 1) rfl tb
  · rename_i k k1 m l l1 t
    refine ⟨fun hb => ?_, fun _ => trivial⟩
    obtain ⟨h1, h2⟩ := Bool.and_eq_true_iff.1 hb
    obtain ⟨g2, h3⟩ := Bool.and_eq_true_iff.1 h2
    obtain ⟨a, ea, ta, rfl, na⟩ := isD_get h1
    obtain ⟨b, eb, tb, rfl, nb⟩ := isD_get g2
    rw [ea, eb] at h3
    show Meets _ _ _ _ (.dsl 2 (nd (opD o (nT l _) (nT l1 _)))) [_, _, AObj.flat true (ints .i64 (dg (opD o (nT l _) (nT l1 _))))]
    rw [ea, eb]
    exact meets_args (meets_fitV (l := l1) (t := t) (meets_fitF (m' := m) (l := l) (h a b na nb h3) (j := 0) rfl ta) (j := 1) rfl tb) fun E xs hx => by
      obtain ⟨a, zs, ha, hz, rfl⟩ := denL_cons.1 hx
      obtain ⟨b, ys, hb, hy, rfl⟩ := denL_cons.1 hz
      exact denL_cons.2 ⟨a, _, ha, denL_cons.2 ⟨b, ys, den_asD hb, hy, rfl⟩, rfl⟩
  · rename_i k k1 m l
    refine ⟨fun hb => ?_, fun _ => trivial⟩
    obtain ⟨h1, h2⟩ := Bool.and_eq_true_iff.1 hb
    obtain ⟨g2, h3⟩ := Bool.and_eq_true_iff.1 h2
    obtain ⟨a, ea, ta, rfl, na⟩ := isD_get h1
    obtain ⟨b, eb, tb, rfl, nb⟩ := isD_get g2
    rw [ea, eb] at h3
    show Meets _ _ _ _ (.dsl 1 (nd (opD o (nT l _) (nT l _)))) [_, AObj.flat true (ints .i64 (dg (opD o (nT l _) (nT l _))))]
    rw [ea, eb]
    have := meets_twice (meets_fitF (m' := m) (l := l) (meets_fitF (m' := m) (l := l) (h a b na nb h3) (j := 0) rfl ta) (j := 1) rfl tb) (renL_ints ..)
    simp only [AObj.ren, renL_ints] at this
    exact this
  · trivial
theorem gT_ok : EntOK Tryz.prog 85 (gT (numF NR)) := fun args pre => by
  unfold gT; split
  · rename_i k n m l
    refine ⟨fun hb => ?_, fun _ => trivial⟩
    obtain ⟨h1, h2⟩ := Bool.and_eq_true_iff.1 hb
    have h2 := of_decide_eq_true h2
    obtain ⟨a, ea, ta, rfl, na⟩ := isD_get h1
    show Meets _ _ _ _ (.dsl 1 (nd (nT l _ * 10 ^ n.toNat))) [_, AObj.flat true (ints .i64 (dg (nT l _ * 10 ^ n.toNat)))]
    rw [ea]
    exact meets_fitF (m' := m) (l := l) (ten_meets a n (by omega) h2) (j := 0) rfl ta
  · rename_i k n l t
    refine ⟨fun hb => ?_, fun _ => trivial⟩
    obtain ⟨h1, h2⟩ := Bool.and_eq_true_iff.1 hb
    have h2 := of_decide_eq_true h2
    obtain ⟨a, ea, ta, rfl, na⟩ := isD_get h1
    show Meets _ _ _ _ (.dsl 1 (nd (nT l _ * 10 ^ n.toNat))) [_, AObj.flat true (ints .i64 (dg (nT l _ * 10 ^ n.toNat)))]
    rw [ea]
    exact meets_args (meets_fitV (l := l) (t := t) (ten_meets a n (by omega) h2) (j := 0) rfl ta) fun E xs hx => by
      obtain ⟨a, zs, ha, hz, rfl⟩ := denL_cons.1 hx
      exact denL_cons.2 ⟨a, zs, den_asD ha, hz, rfl⟩
  · trivial
theorem gL_ok : EntOK Tryz.prog 83 (gL (numF NR)) := fun args pre => by
  unfold gL; split
  · rename_i k k1 m l m1 l1
    refine ⟨fun hb => ?_, fun _ => trivial⟩
    obtain ⟨h1, g2⟩ := Bool.and_eq_true_iff.1 hb
    obtain ⟨a, ea, ta, rfl, na⟩ := isD_get h1
    obtain ⟨b, eb, tb, rfl, nb⟩ := isD_get g2
    show Meets _ _ _ _ (.bool (decide (nT l _ < nT l1 _))) _
    rw [ea, eb]
    exact meets_fitF (m' := m1) (l := l1) (meets_fitF (m' := m) (l := l) (less_meets a b (by omega) (by omega)) (j := 0) rfl ta) (j := 1) rfl tb
  · trivial
theorem gA_ok : EntOK Tryz.prog 115 (gA (numF NR)) := fun args pre => by
  unfold gA; split
  · rename_i k n m l
    refine ⟨fun hb => ?_, fun _ => trivial⟩
    obtain ⟨h1, h2⟩ := Bool.and_eq_true_iff.1 hb
    have h2 := of_decide_eq_true h2
    obtain ⟨a, ea, ta, rfl, na⟩ := isD_get h1
    show Meets _ _ _ _ (.int .i64 ((nT l _ / 10 ^ n.toNat % 10 : Nat) : Int)) _
    rw [ea]
    have := at_meets a n.toNat
    rw [Int.toNat_of_nonneg h2.1] at this
    exact meets_fitF (m' := m) (l := l) this (j := 0) rfl ta
  · trivial
theorem gV_ok : EntOK Tryz.prog 117 (gV (numF NR)) := fun args pre => by
  unfold gV; split
  · rename_i k m l
    refine ⟨fun hb => ?_, fun _ => trivial⟩
    obtain ⟨h1, h2⟩ := Bool.and_eq_true_iff.1 hb
    have h2 := of_decide_eq_true h2
    obtain ⟨a, ea, ta, rfl, na⟩ := isD_get h1
    rw [ea] at h2
    show Meets _ _ _ _ (.int .i64 ((nT l _ : Nat) : Int)) _
    rw [ea]
    exact meets_fitF (m' := m) (l := l) (value_meets a (by omega) h2) (j := 0) rfl ta
  · trivial
theorem gO_ok : EntOK Tryz.prog 116 (gO (numF NR)) := fun args pre => by
  unfold gO; split
  · rename_i n m
    refine ⟨fun hb => ?_, fun _ => trivial⟩
    have hb := of_decide_eq_true hb
    exact lowest_meets n m (inI_iff.2 ⟨by omega, by omega⟩) hb.2
  · trivial
theorem g42_ok : EntOK Tryz.prog 82 (gE (numF NR) 0) := fun args pre => by
  unfold gE; split
  · rename_i n
    refine ⟨fun hb => ?_, fun _ => trivial⟩
    exact digits_meets n hb
  · trivial

theorem okD_dg {o a b : Nat} (ha : nd a ≤ 200000) (hb : nd b ≤ 200000) (hs : sdD o a b = true) : (numF NR).okD o (dg a) (nd a) (dg b) (nd b) = true := by
  show (isD _ _ && (isD _ _ && sdD o (nT _ _) (nT _ _))) = true
  rw [isD_dg ha, isD_dg hb, nT_dg, nT_dg, hs]; rfl
theorem D_dg {o a b : Nat} : (numF NR).D o (dg a) (nd a) (dg b) (nd b) = dg (opD o a b) := by
  show dg (opD o (nT _ _) (nT _ _)) = _
  rw [nT_dg, nT_dg]
theorem kD_dg {o a b : Nat} : (numF NR).kD o (dg a) (nd a) (dg b) (nd b) = nd (opD o a b) := by
  show nd (opD o (nT _ _) (nT _ _)) = _
  rw [nT_dg, nT_dg]
theorem okD1 {a : Nat} (ha : nd a ≤ 200000) : (numF NR).okD 0 (dg a) (nd a) [1] 1 = true := by
  have := okD_dg (NR := NR) (o := 0) (b := 1) ha (by rw [nd_one]; omega) rfl
  rw [dg_one, nd_one] at this; exact this
theorem D1 {a : Nat} : (numF NR).D 0 (dg a) (nd a) [1] 1 = dg (a + 1) := by
  have := D_dg (NR := NR) (o := 0) (a := a) (b := 1)
  rw [dg_one, nd_one] at this; exact this
theorem kD1 {a : Nat} : (numF NR).kD 0 (dg a) (nd a) [1] 1 = nd (a + 1) := by
  have := kD_dg (NR := NR) (o := 0) (a := a) (b := 1)
  rw [dg_one, nd_one] at this; exact this
theorem okT_dg {a : Nat} {n : Int} (ha : nd a ≤ 200000) (hn : -1000000 < n ∧ n < 1000000) : (numF NR).okT (dg a) (nd a) n = true := by
  show (isD _ _ && decide _) = true
  rw [isD_dg ha, decide_eq_true hn]; rfl
theorem T_dg {a : Nat} {n : Int} : (numF NR).T (dg a) (nd a) n = dg (a * 10 ^ n.toNat) := by
  show dg (nT _ _ * _) = _
  rw [nT_dg]
theorem kT_dg {a : Nat} {n : Int} : (numF NR).kT (dg a) (nd a) n = nd (a * 10 ^ n.toNat) := by
  show nd (nT _ _ * _) = _
  rw [nT_dg]
theorem okL_dg {a b : Nat} (ha : nd a ≤ 200000) (hb : nd b ≤ 200000) : (numF NR).okL (dg a) (nd a) (dg b) (nd b) = true := by
  show (isD _ _ && isD _ _) = true
  rw [isD_dg ha, isD_dg hb]; rfl
theorem L_dg {a b : Nat} : (numF NR).L (dg a) (nd a) (dg b) (nd b) = decide (a < b) := by
  show decide (nT _ _ < nT _ _) = _
  rw [nT_dg, nT_dg]
theorem okA_dg {a : Nat} {n : Int} (ha : nd a ≤ 200000) (hn : 0 ≤ n ∧ n < 1000000) : (numF NR).okA (dg a) (nd a) n = true := by
  show (isD _ _ && decide _) = true
  rw [isD_dg ha, decide_eq_true hn]; rfl
theorem A_dg {a : Nat} {n : Int} : (numF NR).A (dg a) (nd a) n = ((a / 10 ^ n.toNat % 10 : Nat) : Int) := by
  show ((nT _ _ / _ % 10 : Nat) : Int) = _
  rw [nT_dg]
theorem okV_dg {a : Nat} (ha : nd a ≤ 200000) (h : a < 1000000000000000000) : (numF NR).okV (dg a) (nd a) = true := by
  show (isD _ _ && decide (nT _ _ < _)) = true
  rw [isD_dg ha, nT_dg, decide_eq_true h]; rfl
theorem V_dg {a : Nat} : (numF NR).V (dg a) (nd a) = (a : Int) := by
  show ((nT _ _ : Nat) : Int) = _
  rw [nT_dg]
theorem okE0 {n : Int} (h : inI n = true) : (numF NR).okE 0 n 0 = true := h
theorem E0 {n : Int} : (numF NR).E 0 n 0 = dg n.natAbs := rfl
theorem kE0 {n : Int} : (numF NR).kE 0 n 0 = nd n.natAbs := rfl
theorem okO_of {m e : Int} (h : (-9223372036854775808 < m ∧ m < 9223372036854775808) ∧ -100 ≤ e ∧ e ≤ 9) : (numF NR).okO m e = true := decide_eq_true h
theorem O_eq {m e : Int} : (numF NR).O m e = trimmedS m e := rfl
end Go.Proofs.YtdomenmfkbfakaaGreatDoor

/- The document's quotients of whole numbers by their digits. -/
set_option linter.unusedVariables false
set_option linter.unusedSimpArgs false
namespace Go.Proofs.YtdomenmfkbfakaaGreatDoor
open Go Sx Rf Dc Rr Dq
/-- trim, of a slice that is handed over. -/
def eTrH : Ent := fun args pre => match args, pre with
  | [.nilslice], [] => .ret .nilslice []
  | [.vec 0 k], [.vecI .i64 l t] => .chk (Nat.beq t 3) (.chk (decide (k ≤ l.length ∧ l.length < 1099511627776)) (.ret (.dsl 1 (trimN l k)) [.raw .dead, .flatI true (l.take (trimN l k))]))
  | _, _ => .fail
theorem eTrH_ok : EntOK Tryz.prog 101 eTrH := fun args pre => by
  unfold eTrH
  split
  · exact ans_comes .nil trim_nil
  · rename_i k l t
    refine ⟨fun g1 => ⟨fun g2 => ?_, fun _ => trivial⟩, fun _ => trivial⟩
    have h := ((eTrim_ok [.vec 0 k] [.vecI .i64 l t]).1 g1).1 g2
    obtain rfl := Nat.eq_of_beq_eq_true g1
    have h3 := trimN_le l k
    exact meets_hand (m := true) (l' := l.take (trimN l k)) h rfl rfl (Nat.le_refl _) (by rw [List.length_take, Nat.min_eq_left (by have := of_decide_eq_true g2; omega)])
  · trivial
def tBy (x : NumF) : Tab := [(101, eTrH), (83, gL x), (136, gD x 1)]
noncomputable abbrev loopB1 : Code := (loopBodies (bodyOf Tryz.f113)).headD .skip
noncomputable abbrev loopB2 : Code := (loopBodies loopB1).headD .skip
def slB (a b : Nat) (q r : AV) (i : Int) (d : Option AV) : List (Option AV) := some (.dsl 0 (nd a)) :: some (.dsl 1 (nd b)) :: none :: none :: none :: none :: some q :: some r :: some (.int .i64 i) :: d :: nn 31
def sB0 (a b : Nat) (i : Int) : PState := ⟨slB a b .nilslice .nilslice i none, mem2 a b none⟩
def memB (a b : Nat) (lq lr : List Int) : List (Option PObj) := some (.flatI false (dg a)) :: some (.flatI false (dg b)) :: some (.vecI .i64 lq 3) :: some (.flatI true lr) :: nn 64
def sBV (a b kq kr : Nat) (lq lr : List Int) (i : Int) : PState := ⟨slB a b (.vec 2 kq) (.dsl 3 kr) i none, memB a b lq lr⟩
def sI0 (a b kr : Nat) (lr : List Int) (i d : Int) : PState := ⟨slB a b .nilslice (.dsl 2 kr) i (some (.int .i64 d)), mem2 a b (some (.flatI true lr))⟩
def sIV (a b kq kr : Nat) (lq lr : List Int) (i d : Int) : PState := ⟨slB a b (.vec 2 kq) (.dsl 3 kr) i (some (.int .i64 d)), memB a b lq lr⟩
abbrev kI : Nat → Bool := fun n => hasN [0, 1, 6, 7, 8, 9] n
abbrev kB : Nat → Bool := fun n => hasN [0, 1, 6, 7, 8] n
abbrev kBx : Nat → Bool := fun n => hasN [6, 7] n
def roundI {α : Type} (x : NumF) (b kr : Nat) (lr : List Int) (d : Int) (nx : List Int → Nat → Int → Option α) (ex : Option α) : Option α :=
  bcond (x.okL lr kr (dg b) (nd b)) (bcond (!(x.L lr kr (dg b) (nd b))) (bcond (x.okD 1 lr kr (dg b) (nd b)) (nx (x.D 1 lr kr (dg b) (nd b)) (x.kD 1 lr kr (dg b) (nd b)) (up1 d)) none) ex) none
theorem rI0 (x : NumF) (a b kr : Nat) (lr : List Int) (i d : Int) : code (ent Tryz.prog (tBy x) nolv 64 1 20) Tryz.prog {} 2 64 1 loopB2 (sI0 a b kr lr i d) (endK 2 64 kI kI)
  = roundI x b kr lr d (fun l k d => some (.normal, sI0 a b k l i d)) (some (.exit 2, sI0 a b kr lr i d)) := by kernel_rfl
theorem rIV (x : NumF) (a b kq kr : Nat) (lq lr : List Int) (i d : Int) : code (ent Tryz.prog (tBy x) nolv 64 1 20) Tryz.prog {} 2 64 1 loopB2 (sIV a b kq kr lq lr i d) (endK 2 64 kI kI)
  = roundI x b kr lr d (fun l k d => some (.normal, sIV a b kq k lq l i d)) (some (.exit 2, sIV a b kq kr lq lr i d)) := by kernel_rfl
variable {NR : Bool → Nat → Nat → Int × Int × Int}
theorem tBy_ok : TabOK Tryz.prog (tBy (numF NR)) := .cons eTrH_ok (.cons gL_ok (.cons (gD_ok fun a b ha hb hs => minus_meets a b (by omega) (of_decide_eq_true hs)) .nil))
theorem roundI_ok {α : Type} {b y d : Nat} {nx : List Int → Nat → Int → Option α} {ex : Option α} (hy : nd y ≤ 200000) (hb : nd b ≤ 200000) (hd : d < 1000000) : roundI (numF NR) b (nd y) (dg y) (d : Int) nx ex = if b ≤ y then nx (dg (y - b)) (nd (y - b)) ((d + 1 : Nat) : Int) else ex := by
  unfold roundI
  rw [bcT (okL_dg hy hb), L_dg]
  by_cases h : b ≤ y
  · rw [decide_eq_false (by omega), bcT (b := !false) rfl, bcT (okD_dg (o := 1) hy hb (decide_eq_true h)), D_dg, kD_dg, up1_nat (by omega), if_pos h]; rfl
  · rw [decide_eq_true (by omega), bcF (b := !true) rfl, if_neg h]
theorem loopI {b y : Nat} {S : Nat → List Int → Int → PState} (hS : ∀ (x : NumF) (k : Nat) (l : List Int) (d : Int), code (ent Tryz.prog (tBy x) nolv 64 1 20) Tryz.prog {} 2 64 1 loopB2 (S k l d) (endK 2 64 kI kI) = roundI x b k l d (fun l k d => some (.normal, S k l d)) (some (.exit 2, S k l d)))
    (hy : nd y ≤ 200000) (hb : nd b ≤ 200000) (h0 : 0 < b) (h10 : y < 10 * b) : Tri Tryz.prog (.loop loopB2) (S (nd y) (dg y) 0).toA (.exit 2) (S (nd (y % b)) (dg (y % b)) ((y / b : Nat) : Int)).toA 2 := by
  have key := loop_rounds (ent_sound (T := tBy (numF fun _ _ _ => (0, 0, 0))) tBy_ok host nolv_ok (NF := 64) (m := 1) 20) (NF := 64) (m := 1) (x := loopB2) (K := 2) loops_none kI kI (ι := { d : Nat // d ≤ y / b }) (fun d => S (nd (y - d.1 * b)) (dg (y - d.1 * b)) (d.1 : Int)) (fun d => y / b - d.1) (fun _ => (.exit 2, S (nd (y % b)) (dg (y % b)) ((y / b : Nat) : Int))) ?_ (fun _ => by simp) ⟨0, Nat.zero_le _⟩
  · simpa using key
  rintro ⟨d, hd⟩
  simp only
  have hq : y / b < 10 := Nat.div_lt_of_lt_mul (by rw [Nat.mul_comm]; exact h10)
  have hm : nd (y - d * b) ≤ 200000 := Nat.le_trans (nd_mono (Nat.sub_le _ _)) hy
  refine (Classical.em (d < y / b)).elim (fun h => .inl ⟨⟨d + 1, h⟩, by simp only; omega, trivial, ?_⟩) (fun h => .inr ?_)
  · refine (hS _ _ _ _).trans ((roundI_ok hm hb (by omega)).trans ?_)
    have := by_go h0 h
    rw [if_pos (by omega), by_sub]
  · have e : d = y / b := by omega
    subst e
    refine (hS _ _ _ _).trans ((roundI_ok hm hb (by omega)).trans ?_)
    have h1 := by_stop (y := y) h0
    rw [h1, if_neg (by have := Nat.mod_lt y h0; omega)]
/-- What the inner loop comes to. -/
def aI (S : Nat → List Int → Int → PState) (b y : Nat) : LAns := .chk (decide (nd y ≤ 200000 ∧ nd b ≤ 200000 ∧ 0 < b ∧ y < 10 * b)) (.out (.exit 2) (S (nd (y % b)) (dg (y % b)) ((y / b : Nat) : Int)))
noncomputable def lvI (S : Nat → List Int → Int → PState) (b y : Nat) : Lv := { keep := fun _ => some [0, 1, 6, 7, 8, 9], ent := oneL 8 (eAt 2 (S (nd y) (dg y) 0) (aI S b y)) }
theorem lvI_ok {S : Nat → List Int → Int → PState} {b y : Nat} (hS : ∀ (x : NumF) (k : Nat) (l : List Int) (d : Int), code (ent Tryz.prog (tBy x) nolv 64 1 20) Tryz.prog {} 2 64 1 loopB2 (S k l d) (endK 2 64 kI kI) = roundI x b k l d (fun l k d => some (.normal, S k l d)) (some (.exit 2, S k l d))) : LoopsOK Tryz.prog (lvI S b y) 2 loopB1 := fun x hx id e hid he t => by
  have h1 : loopBodies loopB1 = [loopB2] := by kernel_rfl
  rw [h1] at hx
  obtain rfl := List.mem_singleton.1 hx
  obtain ⟨rfl, _⟩ := oneL_some he
  have h2 : LAnsOK Tryz.prog loopB2 2 (S (nd y) (dg y) 0) (aI S b y) := ⟨fun g => let g := of_decide_eq_true g; loopI hS g.1 g.2.1 g.2.2.1 g.2.2.2, fun _ => trivial⟩
  exact eAt_ok h2 2 t
-- the rounds of the outer loop
def rT0 (a : Nat) (i : Int) : List Int := ([gN (dg a) i] ++ []).take (trimN ([gN (dg a) i] ++ []) (1 + 0))
def lT (a kr : Nat) (lr : List Int) (i : Int) : List Int := [gN (dg a) i] ++ lr.take kr
theorem rB0 (x : NumF) (a b y : Nat) (i : Int) : code (ent Tryz.prog (tBy x) nolv 64 1 20) Tryz.prog (lvI (fun k l d => sI0 a b k l i d) b y) 2 64 1 loopB1 (sB0 a b i) (endK 2 64 kB kBx)
  = bcond (decide (i ≥ 0)) (chks (some (.normal, sBV a b (1 + 0) (nd (y % b)) ([((y / b : Nat) : Int)] ++ []) (dg (y % b)) (dwn i)))
    [ixN i (nd a), lnN i (dg a), eqSt (sI0 a b (trimN ([gN (dg a) i] ++ []) (1 + 0)) (rT0 a i) i 0) (sI0 a b (nd y) (dg y) i 0), decide (nd y ≤ 200000 ∧ nd b ≤ 200000 ∧ 0 < b ∧ y < 10 * b)]) (some (.exit 0, ⟨none :: none :: none :: none :: none :: none :: some .nilslice :: some .nilslice :: nn 33, mem2 a b none⟩)) := by kernel_rfl
theorem rBV (x : NumF) (a b y kq kr : Nat) (lq lr : List Int) (i : Int) : code (ent Tryz.prog (tBy x) nolv 64 1 20) Tryz.prog (lvI (fun k l d => sIV a b kq k lq l i d) b y) 2 64 1 loopB1 (sBV a b kq kr lq lr i) (endK 2 64 kB kBx)
  = bcond (decide (i ≥ 0)) (chks (some (.normal, sBV a b (1 + kq) (nd (y % b)) ([((y / b : Nat) : Int)] ++ lq.take kq) (dg (y % b)) (dwn i)))
    [ixN i (nd a), lnN i (dg a), decide (kr ≤ lr.length) && true && roomB (1 + kr) 8, decide (1 + kr ≤ (lT a kr lr i).length ∧ (lT a kr lr i).length < 1099511627776), eqSt (sIV a b kq (trimN (lT a kr lr i) (1 + kr)) lq ((lT a kr lr i).take (trimN (lT a kr lr i) (1 + kr))) i 0) (sIV a b kq (nd y) lq (dg y) i 0), decide (nd y ≤ 200000 ∧ nd b ≤ 200000 ∧ 0 < b ∧ y < 10 * b), decide (kq ≤ lq.length) && true && roomB (1 + kq) 8])
    (some (.exit 0, ⟨none :: none :: none :: none :: none :: none :: some (.vec 2 kq) :: some (.dsl 3 kr) :: nn 33, memB a b lq lr⟩)) := by kernel_rfl
def stB (a b j : Nat) : PState := if j = nd a then sB0 a b ((j : Int) - 1) else sBV a b (nd a - j) (nd (a / 10 ^ j % b)) (dN (nd a - j) (a / 10 ^ j / b)) (dg (a / 10 ^ j % b)) ((j : Int) - 1)
def exB (a b : Nat) : PState := if nd a = 0 then ⟨none :: none :: none :: none :: none :: none :: some .nilslice :: some .nilslice :: nn 33, mem2 a b none⟩ else ⟨none :: none :: none :: none :: none :: none :: some (.vec 2 (nd a)) :: some (.dsl 3 (nd (a % b))) :: nn 33, memB a b (dN (nd a) (a / b)) (dg (a % b))⟩
theorem all7 {a b c d e f g : Bool} (h : a = true ∧ b = true ∧ c = true ∧ d = true ∧ e = true ∧ f = true ∧ g = true) : ∀ x ∈ [a, b, c, d, e, f, g], x = true := by
  intro x hx
  simp only [List.mem_cons, List.not_mem_nil, or_false] at hx
  rcases hx with rfl | rfl | rfl | rfl | rfl | rfl | rfl
  · exact h.1
  · exact h.2.1
  · exact h.2.2.1
  · exact h.2.2.2.1
  · exact h.2.2.2.2.1
  · exact h.2.2.2.2.2.1
  · exact h.2.2.2.2.2.2
theorem trim_y {k y : Nat} (h : nd y ≤ k) : trimN (dN k y) k = nd y ∧ (dN k y).take (trimN (dN k y) k) = dg y := by
  have := trimN_dN (N := y) k (Nat.le_refl _) h
  rw [this, dN_take h]; exact ⟨rfl, rfl⟩
theorem loopB {a b : Nat} (ha : nd a ≤ 190000) (hb : nd b ≤ 190000) (h0 : 0 < b) : Tri Tryz.prog (.loop loopB1) (stB a b (nd a)).toA (.exit 0) (exB a b).toA 2 := by
  refine tri_loop (ι := { j : Nat // j ≤ nd a }) (fun j => (stB a b j.1).toA) (fun j => j.1) (by simp) ?_ ⟨nd a, Nat.le_refl _⟩
  rintro ⟨j, hj⟩
  simp only
  have H : ∀ NR, HOK Tryz.prog (ent (R := Ex × PState) Tryz.prog (tBy (numF NR)) nolv 64 1 20) := fun NR => ent_sound (T := tBy (numF NR)) tBy_ok host nolv_ok (NF := 64) (m := 1) 20
  cases j with
  | zero =>
    right
    unfold stB exB
    by_cases e : nd a = 0
    · rw [if_pos e.symm, if_pos e]
      have key := rB0 (numF fun _ _ _ => (0, 0, 0)) a b 0 (((0 : Nat) : Int) - 1)
      rw [bcF (decide_eq_false (by omega))] at key
      exact round_sound (H fun _ _ _ => (0, 0, 0)) (lvI_ok fun x k l d => rI0 x a b k l _ d) key
    · rw [if_neg (by omega), if_neg e, Nat.pow_zero, Nat.div_one, Nat.sub_zero]
      have key := rBV (numF fun _ _ _ => (0, 0, 0)) a b 0 (nd a) (nd (a % b)) (dN (nd a) (a / b)) (dg (a % b)) (((0 : Nat) : Int) - 1)
      rw [bcF (decide_eq_false (by omega))] at key
      exact round_sound (H fun _ _ _ => (0, 0, 0)) (lvI_ok fun x k l d => rIV x a b _ k _ l _ d) key
  | succ j =>
    refine .inl ⟨⟨j, by omega⟩, by simp only; omega, ?_⟩
    have e : ((j + 1 : Nat) : Int) - 1 = (j : Int) := by omega
    have hd : dwn (j : Int) = (j : Int) - 1 := by unfold dwn; exact i64_in (by omega) (by omega)
    have hg : gN (dg a) (j : Int) = ((a / 10 ^ j % 10 : Nat) : Int) := by rw [gN_nat, dg_getD]
    have h10 : a / 10 ^ j % 10 < 10 := Nat.mod_lt _ (by decide)
    have hy := byY_lt (a := a) (k := j) h0
    have hyn : nd (byY a b j) ≤ nd b + 1 := byY_nd h0
    have ix := ixN_nat (j := j) (k := nd a) (by omega)
    have ln := lnN_nat (j := j) (l := dg a) (by rw [dg_length]; omega)
    have g : decide (nd (byY a b j) ≤ 200000 ∧ nd b ≤ 200000 ∧ 0 < b ∧ byY a b j < 10 * b) = true := decide_eq_true ⟨by omega, by omega, h0, hy⟩
    have nx : stB a b j = sBV a b (nd a - j) (nd (byY a b j % b)) (dN (nd a - j) (a / 10 ^ j / b)) (dg (byY a b j % b)) ((j : Int) - 1) := by
      unfold stB; rw [if_neg (by omega), byY_mod h0]
    have hqd := byY_ten (a := a) (k := j) h0
    have hq := by_q (a := a) (k := j) h0 (by omega)
    rw [nx]
    unfold stB
    rw [e]
    by_cases e2 : j + 1 = nd a
    · rw [if_pos e2]
      have key := rB0 (numF fun _ _ _ => (0, 0, 0)) a b (byY a b j) (j : Int)
      have z : a / 10 ^ (j + 1) = 0 := by rw [e2]; exact nd_div
      have hyd : byY a b j = 10 * 0 + a / 10 ^ j % 10 := by unfold byY; rw [z, Nat.zero_mod]
      have hl : [gN (dg a) (j : Int)] ++ [] = dN 1 (byY a b j) := by rw [hg, hyd, ← Rr.dN_cons (j := 0) (x := 0) h10]; rfl
      have ht := trim_y (k := 1) (y := byY a b j) (by rw [hyd]; have := by_nd (x := 0) h10; rw [nd_zero] at this; exact this)
      rw [bcT (decide_eq_true (by omega)), chks_true (all4 ix ln (by unfold rT0; rw [hl, show 1 + 0 = 1 from rfl, ht.2, ht.1]; exact eqSt_refl _) g), hd] at key
      have hq' : [((byY a b j / b : Nat) : Int)] ++ [] = dN (nd a - j) (a / 10 ^ j / b) := by
        rw [← hq, show nd a - (j + 1) = 0 by omega, z, Nat.zero_div, ← Rr.dN_cons hqd]; rfl
      rw [hq', show 1 + 0 = nd a - j by omega] at key
      exact round_sound (H fun _ _ _ => (0, 0, 0)) (lvI_ok fun x k l d => rI0 x a b k l _ d) key
    · rw [if_neg e2]
      have key := rBV (numF fun _ _ _ => (0, 0, 0)) a b (byY a b j) (nd a - (j + 1)) (nd (a / 10 ^ (j + 1) % b)) (dN (nd a - (j + 1)) (a / 10 ^ (j + 1) / b)) (dg (a / 10 ^ (j + 1) % b)) (j : Int)
      have hr : nd (a / 10 ^ (j + 1) % b) ≤ nd b := nd_mono (Nat.le_of_lt (Nat.mod_lt _ h0))
      have hl : lT a (nd (a / 10 ^ (j + 1) % b)) (dg (a / 10 ^ (j + 1) % b)) (j : Int) = dN (1 + nd (a / 10 ^ (j + 1) % b)) (byY a b j) := by
        unfold lT
        rw [hg, List.take_of_length_le (by rw [dg_length]; exact Nat.le_refl _), Nat.add_comm 1]
        exact Rr.dN_cons h10
      have ht := trim_y (k := 1 + nd (a / 10 ^ (j + 1) % b)) (y := byY a b j) (by_nd h10)
      have c1 : (decide (nd (a / 10 ^ (j + 1) % b) ≤ (dg (a / 10 ^ (j + 1) % b)).length) && true && roomB (1 + nd (a / 10 ^ (j + 1) % b)) 8) = true := by rw [decide_eq_true (show nd (a / 10 ^ (j + 1) % b) ≤ (dg (a / 10 ^ (j + 1) % b)).length by rw [dg_length]; exact Nat.le_refl _), roomB_small (by omega)]; rfl
      have c4 : (decide (nd a - (j + 1) ≤ (dN (nd a - (j + 1)) (a / 10 ^ (j + 1) / b)).length) && true && roomB (1 + (nd a - (j + 1))) 8) = true := by rw [dN_length, decide_eq_true (Nat.le_refl _), roomB_small (by omega)]; rfl
      have hq' : [((byY a b j / b : Nat) : Int)] ++ (dN (nd a - (j + 1)) (a / 10 ^ (j + 1) / b)).take (nd a - (j + 1)) = dN (nd a - j) (a / 10 ^ j / b) := by
        rw [← hq, List.take_of_length_le (by rw [dN_length]; exact Nat.le_refl _), ← Rr.dN_cons hqd]; rfl
      rw [bcT (decide_eq_true (by omega)), hl, ht.2, ht.1, hq', show 1 + (nd a - (j + 1)) = nd a - j by omega, hd] at key
      rw [show 1 + (nd a - (j + 1)) = nd a - j by omega] at c4
      rw [chks_true (all7 ⟨ix, ln, c1, decide_eq_true ⟨by rw [dN_length]; exact Nat.le_refl _, by rw [dN_length]; omega⟩, eqSt_refl _, g, c4⟩)] at key
      exact round_sound (H fun _ _ _ => (0, 0, 0)) (lvI_ok fun x k l d => rIV x a b _ k _ l _ d) key
def aB (a b : Nat) (z : Bool) (kq kr : Nat) (lq lr : List Int) : LAns := .chk (decide (nd a ≤ 190000 ∧ nd b ≤ 190000 ∧ 0 < b)) (.chk (decide (z = decide (nd a = 0) ∧ kq = nd a ∧ kr = nd (a % b) ∧ lq = dN (nd a) (a / b) ∧ lr = dg (a % b)))
  (.out (.exit 0) (bcond z ⟨none :: none :: none :: none :: none :: none :: some .nilslice :: some .nilslice :: nn 33, mem2 a b none⟩ ⟨none :: none :: none :: none :: none :: none :: some (.vec 2 kq) :: some (.dsl 3 kr) :: nn 33, memB a b lq lr⟩)))
theorem aB_ok (a b : Nat) (z : Bool) (kq kr : Nat) (lq lr : List Int) : LAnsOK Tryz.prog loopB1 2 (sB0 a b ((nd a : Int) - 1)) (aB a b z kq kr lq lr) := ⟨fun g => ⟨fun g2 => by
  have g := of_decide_eq_true g
  obtain ⟨rfl, rfl, rfl, rfl, rfl⟩ := of_decide_eq_true g2
  have key := loopB g.1 g.2.1 g.2.2
  unfold stB exB at key
  rw [if_pos rfl] at key
  by_cases h : nd a = 0
  · rw [if_pos h] at key; rw [decide_eq_true h]; exact key
  · rw [if_neg h] at key; rw [decide_eq_false h]; exact key, fun _ => trivial⟩, fun _ => trivial⟩
noncomputable def lvB (a b : Nat) (z : Bool) (kq kr : Nat) (lq lr : List Int) : FuncId → Lv := lvOf 113 (fun i => match i with | 4 => some [0, 1, 6, 7, 8] | _ => some [0, 1, 6, 7, 8, 9]) (oneL 4 (eAt 2 (sB0 a b ((nd a : Int) - 1)) (aB a b z kq kr lq lr)))
theorem lvB_ok (a b : Nat) (z : Bool) (kq kr : Nat) (lq lr : List Int) : LvOK Tryz.prog (lvB a b z kq kr lq lr) := lvOf_ok Tryz.func113 fun y hy id e' hid he K t => by
  have h1 : loopBodies (bodyOf Tryz.f113) = [loopB1, loopB2] := by kernel_rfl
  rw [h1] at hy
  obtain ⟨rfl, h4⟩ := oneL_some he
  rcases List.mem_cons.1 hy with rfl | hy
  · exact eAt_ok (aB_ok a b z kq kr lq lr) K t
  · obtain rfl := List.mem_singleton.1 hy
    have h2 : headReg loopB2 = some 8 := by kernel_rfl
    rw [h2, h4] at hid; cases hid
def tTr : Tab := [(101, eTrH)]
theorem by_0 (a b kq kr : Nat) (lq lr : List Int) : Comes tTr (lvB a b true kq kr lq lr) 113 [.dsl 0 (nd a), .dsl 1 (nd b)] (two a b) (.chk (eqSt (sB0 a b (dwn (nd a))) (sB0 a b ((nd a : Int) - 1))) (.chk (decide (nd a ≤ 190000 ∧ nd b ≤ 190000 ∧ 0 < b)) (.chk (decide (true = decide (nd a = 0) ∧ kq = nd a ∧ kr = nd (a % b) ∧ lq = dN (nd a) (a / b) ∧ lr = dg (a % b)))
  (.ret (.tuple [.nilslice, .nilslice]) (two a b))))) := by unfold Comes; kernel_rfl
theorem by_V (a b kq kr : Nat) (lq lr : List Int) : Comes tTr (lvB a b false kq kr lq lr) 113 [.dsl 0 (nd a), .dsl 1 (nd b)] (two a b) (.chk (eqSt (sB0 a b (dwn (nd a))) (sB0 a b ((nd a : Int) - 1))) (.chk (decide (nd a ≤ 190000 ∧ nd b ≤ 190000 ∧ 0 < b)) (.chk (decide (false = decide (nd a = 0) ∧ kq = nd a ∧ kr = nd (a % b) ∧ lq = dN (nd a) (a / b) ∧ lr = dg (a % b)))
  (.chk (decide (kq ≤ lq.length ∧ lq.length < 1099511627776)) (.ret (.tuple [.dsl 2 (trimN lq kq), .dsl 3 kr]) (two a b ++ [.flatI true (lq.take (trimN lq kq)), .flatI true lr])))))) := by unfold Comes; kernel_rfl
theorem by_meets (a b : Nat) (ha : nd a ≤ 190000) (hb : nd b ≤ 190000) (h0 : 0 < b) : Meets Tryz.prog 113 [.dsl 0 (nd a), .dsl 1 (nd b)] [FL a, FL b] (.tuple [.dsl 2 (nd (a / b)), .dsl 3 (nd (a % b))]) [FL a, FL b, FT (a / b), FT (a % b)] := by
  have ed : dwn (nd a) = (nd a : Int) - 1 := i64_in (by omega) (by omega)
  by_cases h : nd a = 0
  · have ez : a = 0 := nd_eq_zero h
    have k := meets_ent (T := tTr) (pre := two a b) (post := two a b) (res := .tuple [.nilslice, .nilslice]) (.cons eTrH_ok .nil) host ((by_0 a b (nd a) (nd (a % b)) (dN (nd a) (a / b)) (dg (a % b))).trans (by
      rw [chkT (by rw [ed]; exact eqSt_refl _), chkT (decide_eq_true ⟨ha, hb, h0⟩), chkT (decide_eq_true ⟨(decide_eq_true h).symm, rfl, rfl, rfl, rfl⟩)]; rfl)) (lvB_ok _ _ _ _ _ _ _)
    have e1 : a / b = 0 := by rw [ez, Nat.zero_div]
    have e2 : a % b = 0 := by rw [ez, Nat.zero_mod]
    rw [e1, e2, FT, dg_zero, nd_zero]
    have k2 := meets_sealNil (res' := .tuple [.dsl 2 0, .nilslice]) k (by simp [two]) fun E E' x hx hle h2 => by
      simp only [den, denL] at hx ⊢
      rw [show (List.map PObj.toA (two a b)).length = 2 from rfl] at h2
      rw [h2]; simpa using hx
    exact meets_sealNil (res' := .tuple [.dsl 2 0, .dsl 3 0]) k2 (by simp [two]) fun E E' x hx hle h2 => by
      simp only [den, denL] at hx ⊢
      rw [show (List.map PObj.toA (two a b) ++ [AObj.flat true []]).length = 3 from rfl] at h2
      rw [h2]
      cases hE : E 2 with
      | none => rw [hE] at hx; simp at hx
      | some p => rw [hle _ _ hE]; rw [hE] at hx; simpa using hx
  · have ht := trim_y (k := nd a) (y := a / b) by_fit
    have k := meets_ent (T := tTr) (pre := two a b) (post := two a b ++ [.flatI true (dg (a / b)), .flatI true (dg (a % b))]) (res := .tuple [.dsl 2 (nd (a / b)), .dsl 3 (nd (a % b))]) (.cons eTrH_ok .nil) host ((by_V a b (nd a) (nd (a % b)) (dN (nd a) (a / b)) (dg (a % b))).trans (by
      rw [chkT (by rw [ed]; exact eqSt_refl _), chkT (decide_eq_true ⟨ha, hb, h0⟩), chkT (decide_eq_true ⟨(decide_eq_false h).symm, rfl, rfl, rfl, rfl⟩), chkT (decide_eq_true ⟨by rw [dN_length]; exact Nat.le_refl _, by rw [dN_length]; omega⟩), ht.2, ht.1]; rfl)) (lvB_ok _ _ _ _ _ _ _)
    exact k
theorem gBy_ok : EntOK Tryz.prog 113 (gBy (numF NR)) := fun args pre => by
  unfold gBy; split
  · rename_i k k1 m l m1 l1
    refine ⟨fun hb => ?_, fun _ => trivial⟩
    obtain ⟨h1, h2⟩ := Bool.and_eq_true_iff.1 hb
    obtain ⟨g2, h3⟩ := Bool.and_eq_true_iff.1 h2
    obtain ⟨a, ea, ta, rfl, na⟩ := isD_get h1
    obtain ⟨b, eb, tb, rfl, nb⟩ := isD_get g2
    rw [ea, eb] at h3
    show Meets _ _ _ _ (.tuple [.dsl 2 (nd (nT l _ / nT l1 _)), .dsl 3 (nd (nT l _ % nT l1 _))]) [_, _, AObj.flat true (ints .i64 (dg (nT l _ / nT l1 _))), AObj.flat true (ints .i64 (dg (nT l _ % nT l1 _)))]
    rw [ea, eb]
    exact meets_fitF (m' := m1) (l := l1) (meets_fitF (m' := m) (l := l) (let h4 := of_decide_eq_true h3; by_meets a b h4.2.1 h4.2.2 h4.1) (j := 0) rfl ta) (j := 1) rfl tb
  · trivial
end Go.Proofs.YtdomenmfkbfakaaGreatDoor

/- The document's rounding of a quotient to a decimal. -/
set_option linter.unusedVariables false
set_option linter.unusedSimpArgs false
namespace Go.Proofs.YtdomenmfkbfakaaGreatDoor
open Go Sx Rf Dc Rr Dq
def nearDo (b : Bool) : Option (Nat × Int) → Int × Int
  | none => (0, 0)
  | some (q, e) => (sgn b (trimmedS q e).1, (trimmedS q e).2)
def nearXo : Option (Nat × Int) → Int
  | none => 10
  | some _ => 0
def nearD (b : Bool) (N M : Nat) : Int × Int := nearDo b (nearG N M 19 0)
def nearX (N M : Nat) : Int := nearXo (nearG N M 19 0)
theorem trimD_le : ∀ (n : Nat) (m e : Int), ((trimD n m e).1.natAbs ≤ m.natAbs)
  | 0, m, e => by simp [trimD]
  | n + 1, m, e => by
    rw [trimD]
    split
    · have ih := trimD_le n (m.tdiv 10) (e + 1)
      have h : (m.tdiv 10).natAbs ≤ m.natAbs := by rw [Int.natAbs_tdiv]; exact Nat.div_le_self _ _
      omega
    · simp only []; omega
theorem low_le (m e : Int) : (trimmedS m e).1.natAbs ≤ m.natAbs := by
  unfold trimmedS
  split
  · simp
  · exact trimD_le _ _ _
noncomputable abbrev loopNr : Code := (loopBodies (bodyOf Tryz.f81)).headD .skip
def tabNr (x : NumF) : Tab := [(85, gT x), (82, gE x 0), (83, gL x), (114, gD x 0), (113, gBy x), (115, gA x), (116, gO x), (117, gV x)]
def nrS (b : Bool) (l l1 : List Int) (k k1 : Nat) (e : Int) : PState := ⟨some (.bool b) :: some (.dsl 0 k) :: some (.dsl 1 k1) :: none :: none :: none :: some (.ptr 2 0) :: some (.int .i64 0) :: some (.int .i64 e) :: List.replicate 56 none, some (.flatI false l) :: some (.flatI false l1) :: some (.raw (.cells [.int .i64 0, .int .i64 0] 23)) :: List.replicate 64 none⟩
def nrF (l l1 : List Int) (t : Int × Int) : PState := ⟨none :: none :: none :: none :: none :: none :: some (.ptr 2 0) :: some (.int .i64 0) :: List.replicate 57 none, some (.flatI false l) :: some (.flatI false l1) :: some (.raw (.cells [.int .i64 t.1, .int .i64 t.2] 23)) :: List.replicate 64 none⟩
def wrN (a : Int) : Int := IntKind.i64.wrap a
abbrev kN : Nat → Bool := fun n => hasN [0, 1, 2, 6, 7, 8] n
abbrev kNx : Nat → Bool := fun n => hasN [6, 7] n
def ck2 {α : Type} (b : Bool) (y : Option α) : Option α := bcond b y none
def finQ (x : NumF) (b : Bool) (l l1 : List Int) (k k1 : Nat) (e : Int) (u : List Int) (ku : Nat) : OX :=
  ck2 (x.okE 0 999999999999999 0) (ck2 (x.okL (x.E 0 999999999999999 0) (x.kE 0 999999999999999 0) u ku) (bcond (x.L (x.E 0 999999999999999 0) (x.kE 0 999999999999999 0) u ku) (some (.normal, nrS b l l1 k k1 (wrN (e + 1))))
    (ck2 (x.okV u ku) (ck2 (x.okO (x.V u ku) e) (bcond b (some (.ret, nrF l l1 (wrN (0 - (x.O (x.V u ku) e).1), (x.O (x.V u ku) e).2))) (some (.ret, nrF l l1 ((x.O (x.V u ku) e).1, (x.O (x.V u ku) e).2))))))))
def upQ (x : NumF) (b : Bool) (l l1 : List Int) (k k1 : Nat) (e : Int) (q : List Int) (kq : Nat) : OX := ck2 (x.okD 0 q kq [1] 1) (finQ x b l l1 k k1 e (x.D 0 q kq [1] 1) (x.kD 0 q kq [1] 1))
def rndQ (x : NumF) (b : Bool) (l l1 : List Int) (k k1 : Nat) (e : Int) (d : List Int) (kd : Nat) (q : List Int) (kq : Nat) (t : List Int) (kt : Nat) : OX :=
  ck2 (x.okL d kd t kt) (bcond (x.L d kd t kt) (upQ x b l l1 k k1 e q kq) (ck2 (x.okL t kt d kd) (bcond (!(x.L t kt d kd)) (ck2 (x.okA q kq 0) (bcond ((x.A q kq 0).tmod 2 == 1) (upQ x b l l1 k k1 e q kq) (finQ x b l l1 k k1 e q kq))) (finQ x b l l1 k k1 e q kq))))
def divQ (x : NumF) (b : Bool) (l l1 : List Int) (k k1 : Nat) (e : Int) (n : List Int) (kn : Nat) (d : List Int) (kd : Nat) : OX :=
  ck2 (x.okD 3 n kn d kd) (ck2 (x.okD 0 (x.D 4 n kn d kd) (x.kD 4 n kn d kd) (x.D 4 n kn d kd) (x.kD 4 n kn d kd)) (rndQ x b l l1 k k1 e d kd (x.D 3 n kn d kd) (x.kD 3 n kn d kd)
    (x.D 0 (x.D 4 n kn d kd) (x.kD 4 n kn d kd) (x.D 4 n kn d kd) (x.kD 4 n kn d kd)) (x.kD 0 (x.D 4 n kn d kd) (x.kD 4 n kn d kd) (x.D 4 n kn d kd) (x.kD 4 n kn d kd))))
theorem roundN (x : NumF) (b : Bool) (l l1 : List Int) (k k1 : Nat) (e : Int) : code (ent (R := Ex × PState) Tryz.prog (tabNr x) nolv 64 18446744073709551616 30) Tryz.prog {} 2 64 18446744073709551616 loopNr (nrS b l l1 k k1 e) (endK 2 64 kN kNx) =
    bcond (decide (e ≤ 9)) (ck2 (x.okT l1 k1 e) (ck2 (x.okT l k (wrN (0 - e))) (divQ x b l l1 k k1 e (x.T l k (wrN (0 - e))) (x.kT l k (wrN (0 - e))) (x.T l1 k1 e) (x.kT l1 k1 e)))) (some (.exit 0, nrF l l1 (0, 0))) := by kernel_rfl
variable {NR : Bool → Nat → Nat → Int × Int × Int}

theorem finQ_dg {b : Bool} {N M : Nat} {e : Int} {u : Nat} (hu : nd u ≤ 200000) (he : -9 ≤ e ∧ e ≤ 9) : finQ (numF NR) b (dg N) (dg M) (nd N) (nd M) e (dg u) (nd u) =
    if u ≤ 999999999999999 then some (.ret, nrF (dg N) (dg M) (nearDo b (some (u, e)))) else some (.normal, nrS b (dg N) (dg M) (nd N) (nd M) (e + 1)) := by
  obtain ⟨C, hC, hv⟩ : ∃ C, (999999999999999 : Int).natAbs = C ∧ C = 999999999999999 := ⟨_, rfl, rfl⟩
  have c1 : nd C ≤ 20 := nd_small (by omega)
  unfold finQ ck2
  rw [bcT (okE0 (by decide)), E0, kE0, hC, bcT (okL_dg (by omega) hu), L_dg]
  by_cases h : u ≤ 999999999999999
  · have hl := low_le (u : Int) e
    have w : wrN (0 - (trimmedS (u : Int) e).1) = -(trimmedS (u : Int) e).1 := by unfold wrN; rw [i64_in (by omega) (by omega)]; omega
    rw [bcF (b := decide _) (decide_eq_false (by omega)), if_pos h, bcT (okV_dg hu (by omega)), V_dg, bcT (okO_of ⟨by omega, by omega⟩), O_eq, w]
    cases b <;> rfl
  · have w : wrN (e + 1) = e + 1 := by unfold wrN; rw [i64_in (by omega) (by omega)]
    rw [bcT (b := decide _) (decide_eq_true (by omega)), if_neg h, w]
theorem divQ_dg {b : Bool} {N M : Nat} {e : Int} {n d : Nat} (hn : nd n ≤ 150000) (hd : nd d ≤ 150000) (h0 : 0 < d) (he : -9 ≤ e ∧ e ≤ 9) : divQ (numF NR) b (dg N) (dg M) (nd N) (nd M) e (dg n) (nd n) (dg d) (nd d) =
    if rndE n d ≤ 999999999999999 then some (.ret, nrF (dg N) (dg M) (nearDo b (some (rndE n d, e)))) else some (.normal, nrS b (dg N) (dg M) (nd N) (nd M) (e + 1)) := by
  have q1 : nd (n / d) ≤ nd n := nd_mono (Nat.div_le_self n d)
  have r1 : nd (n % d) ≤ nd d := nd_mono (Nat.le_of_lt (Nat.mod_lt n h0))
  have t1 := nd_add (a := n % d) (b := n % d)
  have u1 := nd_add (a := n / d) (b := 1)
  rw [nd_one] at u1
  have up : upQ (numF NR) b (dg N) (dg M) (nd N) (nd M) e (dg (n / d)) (nd (n / d)) = if n / d + 1 ≤ 999999999999999 then some (.ret, nrF (dg N) (dg M) (nearDo b (some (n / d + 1, e)))) else some (.normal, nrS b (dg N) (dg M) (nd N) (nd M) (e + 1)) := by
    unfold upQ ck2
    rw [bcT (okD1 (by omega)), D1, kD1]
    exact finQ_dg (by omega) he
  have fin := finQ_dg (NR := NR) (b := b) (N := N) (M := M) (u := n / d) (by omega) he
  have a3 : (numF NR).D 3 (dg n) (nd n) (dg d) (nd d) = dg (n / d) := D_dg
  have a4 : (numF NR).D 4 (dg n) (nd n) (dg d) (nd d) = dg (n % d) := D_dg
  have b3 : (numF NR).kD 3 (dg n) (nd n) (dg d) (nd d) = nd (n / d) := kD_dg
  have b4 : (numF NR).kD 4 (dg n) (nd n) (dg d) (nd d) = nd (n % d) := kD_dg
  have a0 : (numF NR).D 0 (dg (n % d)) (nd (n % d)) (dg (n % d)) (nd (n % d)) = dg (n % d + n % d) := D_dg
  have b0 : (numF NR).kD 0 (dg (n % d)) (nd (n % d)) (dg (n % d)) (nd (n % d)) = nd (n % d + n % d) := kD_dg
  unfold divQ ck2
  rw [bcT (okD_dg (o := 3) (by omega) (by omega) (decide_eq_true ⟨h0, by omega, by omega⟩)), a3, a4, b3, b4, bcT (okD_dg (o := 0) (by omega) (by omega) rfl), a0, b0]
  unfold rndQ ck2
  rw [bcT (okL_dg (by omega) (by omega)), L_dg, up, fin]
  by_cases c1 : d < n % d + n % d
  · rw [bcT (decide_eq_true c1), rnd_up (.inl c1)]
  · rw [bcF (decide_eq_false c1), bcT (okL_dg (by omega) (by omega)), L_dg]
    by_cases c2 : n % d + n % d < d
    · rw [bcF (b := !_) (by rw [decide_eq_true c2]; rfl), rnd_dn (fun h => h.elim c1 fun k => k.1 c2)]
    · rw [bcT (b := !_) (by rw [decide_eq_false c2]; rfl), bcT (okA_dg (by omega) (by omega)), A_dg]
      have ev : (((n / d / 10 ^ (0 : Int).toNat % 10 : Nat) : Int).tmod 2 == 1) = decide (n / d / 10 ^ 0 % 10 % 2 = 1) := by
        rw [show (0 : Int).toNat = 0 from rfl, Bool.eq_iff_iff, beq_iff_eq, decide_eq_true_eq, Int.tmod_eq_emod_of_nonneg (by omega)]
        omega
      rw [ev]
      by_cases c3 : n / d / 10 ^ 0 % 10 % 2 = 1
      · rw [bcT (decide_eq_true c3), rnd_up (.inr ⟨c2, c3⟩)]
      · rw [bcF (decide_eq_false c3), rnd_dn (fun h => h.elim c1 fun k => c3 k.2)]
theorem round_dg {b : Bool} {N M : Nat} {e : Int} (hN : nd N < 100000) (hM : nd M < 100000) (hM0 : 0 < M) (he : -9 ≤ e ∧ e ≤ 9) : code (ent (R := Ex × PState) Tryz.prog (tabNr (numF NR)) nolv 64 18446744073709551616 30) Tryz.prog {} 2 64 18446744073709551616 loopNr (nrS b (dg N) (dg M) (nd N) (nd M) e) (endK 2 64 kN kNx) =
    if rndE (nE N e) (dE M e) ≤ 999999999999999 then some (.ret, nrF (dg N) (dg M) (nearDo b (some (rndE (nE N e) (dE M e), e)))) else some (.normal, nrS b (dg N) (dg M) (nd N) (nd M) (e + 1)) := by
  have w : wrN (0 - e) = -e := by unfold wrN; rw [i64_in (by omega) (by omega)]; omega
  have n1 := nd_pow (x := N) (k := (-e).toNat)
  have d1 := nd_pow (x := M) (k := e.toNat)
  rw [roundN, bcT (decide_eq_true he.2), w]
  unfold ck2
  rw [bcT (okT_dg (by omega) (by omega)), bcT (okT_dg (by omega) (by omega)), T_dg, T_dg, kT_dg, kT_dg]
  exact divQ_dg (by omega) (by omega) (Nat.mul_pos hM0 (Nat.pow_pos (by decide))) he
theorem tabNr_ok : TabOK Tryz.prog (tabNr (numF NR)) := .cons gT_ok (.cons g42_ok (.cons gL_ok (.cons (gD_ok fun a b ha hb _ => plus_meets a b (by omega) (by omega)) (.cons gBy_ok (.cons gA_ok (.cons gO_ok (.cons gV_ok .nil)))))))
def exO : Option (Nat × Int) → Ex
  | none => .exit 0
  | some _ => .ret
theorem loopN_dg (b : Bool) (N M : Nat) (hN : nd N < 100000) (hM : nd M < 100000) (hM0 : 0 < M) (o : Option (Nat × Int)) (h : nearG N M 19 0 = o) :
    Tri Tryz.prog (.loop loopNr) (nrS b (dg N) (dg M) (nd N) (nd M) (-9)).toA (exO o) (nrF (dg N) (dg M) (nearDo b o)).toA 2 := by
  refine loop_rounds (P := Tryz.prog) (H := ent (R := Ex × PState) Tryz.prog (tabNr (numF fun _ _ _ => (0, 0, 0))) nolv 64 18446744073709551616 30) (ι := { q : Nat × Nat // q.1 + q.2 = 19 ∧ nearG N M q.1 q.2 = o }) (NF := 64) (m := 18446744073709551616) (lv := {}) (ent_sound (tabNr_ok (NR := fun _ _ _ => (0, 0, 0))) host nolv_ok 30) (x := loopNr) (K := 2) (fun x hx id e h1 h2 => by cases h2) kN kNx (fun q => nrS b (dg N) (dg M) (nd N) (nd M) ((q.1.2 : Int) - 9)) (fun q => q.1.1) (fun _ => (exO o, nrF (dg N) (dg M) (nearDo b o))) ?_ (fun _ => by cases o <;> simp [exO]) ⟨(19, 0), rfl, h⟩
  rintro ⟨⟨n, j⟩, hj, h⟩
  simp only at hj h ⊢
  cases n with
  | zero =>
    right
    have : o = none := h.symm
    subst this
    rw [roundN, bcF (decide_eq_false (by omega))]; rfl
  | succ n =>
    rw [round_dg hN hM hM0 (by omega)]
    rw [nearG] at h
    by_cases c : rndE (nE N ((j : Int) - 9)) (dE M ((j : Int) - 9)) ≤ 999999999999999
    · rw [if_pos c] at h ⊢
      right; subst h; rfl
    · rw [if_neg c] at h ⊢
      exact .inl ⟨⟨(n, j + 1), by simp only; omega, h⟩, Nat.lt_succ_self n, trivial, by rw [show (j : Int) - 9 + 1 = ((j + 1 : Nat) : Int) - 9 by omega]⟩
noncomputable def aN (b : Bool) (N M : Nat) (o : Option (Nat × Int)) (ex : Ex) (t : Int × Int) : LAns := .chk (clB (nd N < 100000 ∧ nd M < 100000 ∧ 0 < M ∧ nearG N M 19 0 = o ∧ ex = exO o ∧ t = nearDo b o)) (.out ex (nrF (dg N) (dg M) t))
theorem aN_ok (b : Bool) (N M : Nat) (o : Option (Nat × Int)) (ex : Ex) (t : Int × Int) : LAnsOK Tryz.prog loopNr 2 (nrS b (dg N) (dg M) (nd N) (nd M) (-9)) (aN b N M o ex t) := ⟨fun g => by
  obtain ⟨h1, h2, h3, h4, rfl, rfl⟩ := clB_of g
  exact loopN_dg b N M h1 h2 h3 o h4, fun _ => trivial⟩
noncomputable def lvN (b : Bool) (N M : Nat) (o : Option (Nat × Int)) (ex : Ex) (t : Int × Int) : FuncId → Lv := lvOf 81 (fun _ => some [0, 1, 2, 6, 7, 8]) (oneL 2 (eAt 2 (nrS b (dg N) (dg M) (nd N) (nd M) (-9)) (aN b N M o ex t)))
theorem lvN_ok (b : Bool) (N M : Nat) (o : Option (Nat × Int)) (ex : Ex) (t : Int × Int) : LvOK Tryz.prog (lvN b N M o ex t) := lvOne_ok (x := loopNr) Tryz.func81 (by kernel_rfl) fun K u => eAt_ok (aN_ok b N M o ex t) K u
theorem near_none (b : Bool) (N M : Nat) (o : Option (Nat × Int)) (t : Int × Int) : Comes [] (lvN b N M o (.exit 0) t) 81 [.bool b, .dsl 0 (nd N), .dsl 1 (nd M)] (two N M)
  (.chk (eqSt (nrS b (dg N) (dg M) (nd N) (nd M) (-9)) (nrS b (dg N) (dg M) (nd N) (nd M) (-9))) (.chk (clB (nd N < 100000 ∧ nd M < 100000 ∧ 0 < M ∧ nearG N M 19 0 = o ∧ Ex.exit 0 = exO o ∧ t = nearDo b o)) (.ret (R3 (0, 0, 10)) (two N M)))) := by unfold Comes; kernel_rfl
theorem near_some (b : Bool) (N M : Nat) (o : Option (Nat × Int)) (t : Int × Int) : Comes [] (lvN b N M o .ret t) 81 [.bool b, .dsl 0 (nd N), .dsl 1 (nd M)] (two N M)
  (.chk (eqSt (nrS b (dg N) (dg M) (nd N) (nd M) (-9)) (nrS b (dg N) (dg M) (nd N) (nd M) (-9))) (.chk (clB (nd N < 100000 ∧ nd M < 100000 ∧ 0 < M ∧ nearG N M 19 0 = o ∧ Ex.ret = exO o ∧ t = nearDo b o)) (.ret (R3 (t.1, t.2, 0)) (two N M)))) := by unfold Comes; kernel_rfl
theorem near_core (b : Bool) (N M : Nat) (hN : nd N < 100000) (hM : nd M < 100000) (hM0 : 0 < M) (o : Option (Nat × Int)) (h : nearG N M 19 0 = o) :
    Meets Tryz.prog 81 [.bool b, .dsl 0 (nd N), .dsl 1 (nd M)] [FL N, FL M] (R3 ((nearDo b o).1, (nearDo b o).2, nearXo o)) [FL N, FL M] := by
  cases o with
  | none => exact meets_ent (T := []) (pre := two N M) (post := two N M) .nil host ((near_none b N M none (nearDo b none)).trans (by rw [chkT (eqSt_refl _), chkT (clB_to ⟨hN, hM, hM0, h, rfl, rfl⟩)]; rfl)) (lvN_ok _ _ _ _ _ _)
  | some p => exact meets_ent (T := []) (pre := two N M) (post := two N M) .nil host ((near_some b N M (some p) (nearDo b (some p))).trans (by rw [chkT (eqSt_refl _), chkT (clB_to ⟨hN, hM, hM0, h, rfl, rfl⟩)]; rfl)) (lvN_ok _ _ _ _ _ _)
def nrR (b : Bool) (N M : Nat) : Int × Int × Int := ((nearD b N M).1, (nearD b N M).2, nearX N M)
theorem nrR_ok (b : Bool) (N M : Nat) (hN : nd N < 100000) (hM : nd M < 100000) (h0 : 0 < M) : Meets Tryz.prog 81 [.bool b, .dsl 0 (nd N), .dsl 1 (nd M)] [FL N, FL M] (R3 (nrR b N M)) [FL N, FL M] := by
  unfold nrR nearD nearX
  exact near_core b N M hN hM h0 _ rfl
end Go.Proofs.YtdomenmfkbfakaaGreatDoor

/- The document's decimals: which are right, of whole numbers, quotients. -/
set_option linter.unusedVariables false
set_option linter.unusedSimpArgs false
namespace Go.Proofs.YtdomenmfkbfakaaGreatDoor
open Go Sx Rf Dc Rr Dq
abbrev dcA (a b : Int) : AV := .agg [.int .i64 a, .int .i64 b]
def rtT (a b : Int) (x y : Bool) (z : Bool → Bool → Bool) : Ans := .br (decide (a < -999999999999999)) (.ret (.bool false) []) (.br (decide (a > 999999999999999)) (.ret (.bool false) []) (.br (decide (b < -9)) (.ret (.bool false) []) (.br (decide (b > 9)) (.ret (.bool false) []) (.br (a == 0) (.ret (.bool (b == 0)) []) (.br x (.ret (.bool true) []) (.ret (.bool y) []))))))
theorem rt_doc (a b : Int) : Comes [] nolv 86 [dcA a b] [] (rtT a b (a.tmod 10 != 0) (b == 9) fun x y => x) := by unfold Comes; kernel_rfl
theorem rt_dec (a b : Int) : Comes [] nolv 67 [dcA a b] [] (rtT a b (b == 9) (a.tmod 10 != 0) fun x y => x) := by unfold Comes; kernel_rfl
theorem rt_run {a b : Int} {x y : Bool} {z : Bool → Bool → Bool} (h : (x || y) = ((b == 9) || (a.tmod 10 != 0))) : (rtT a b x y z).run pure2 = pure2 (.bool (rightB a b)) [] := by
  unfold rtT
  by_cases h1 : a < -999999999999999
  · rw [brT (decide_eq_true h1), show rightB a b = false from decide_eq_false (by omega)]; rfl
  by_cases h2 : a > 999999999999999
  · rw [brF (decide_eq_false h1), brT (decide_eq_true h2), show rightB a b = false from decide_eq_false (by omega)]; rfl
  by_cases h3 : b < -9
  · rw [brF (decide_eq_false h1), brF (decide_eq_false h2), brT (decide_eq_true h3), show rightB a b = false from decide_eq_false (by omega)]; rfl
  by_cases h4 : b > 9
  · rw [brF (decide_eq_false h1), brF (decide_eq_false h2), brF (decide_eq_false h3), brT (decide_eq_true h4), show rightB a b = false from decide_eq_false (by omega)]; rfl
  rw [brF (decide_eq_false h1), brF (decide_eq_false h2), brF (decide_eq_false h3), brF (decide_eq_false h4)]
  by_cases h5 : a = 0
  · rw [brT (beq_iff_eq.2 h5)]
    have : rightB a b = (b == 0) := by
      unfold rightB
      by_cases h6 : b = 0
      · rw [decide_eq_true (by omega), beq_iff_eq.2 h6]
      · rw [decide_eq_false (by omega), beq_eq_false_iff_ne.2 h6]
    rw [this]; rfl
  · rw [brF (beq_eq_false_iff_ne.2 h5)]
    have : rightB a b = (x || y) := by
      rw [h]
      unfold rightB
      by_cases h6 : b = 9
      · rw [decide_eq_true (by omega), beq_iff_eq.2 h6]; rfl
      · rw [beq_eq_false_iff_ne.2 h6, Bool.false_or]
        by_cases h7 : a.tmod 10 = 0
        · rw [decide_eq_false (by omega), bne_eq_false_iff_eq.2 h7]
        · rw [decide_eq_true (by omega), bne_iff_ne.2 h7]
    rw [this]
    cases x <;> rfl
def eRt : Ent := fun args pre => match args, pre with
  | [.agg [.int .i64 a, .int .i64 b]], [] => .ret (.bool (rightB a b)) []
  | _, _ => .fail
theorem eRtR_ok : EntOK Tryz.prog 86 eRt := fun args pre => by
  unfold eRt; split
  · exact of_run (ans_comes .nil (rt_doc _ _)) fun r hr => (rt_run (Bool.or_comm _ _)).trans hr
  · trivial
theorem eRtD_ok : EntOK Tryz.prog 67 eRt := fun args pre => by
  unfold eRt; split
  · exact of_run (ans_comes .nil (rt_dec _ _)) fun r hr => (rt_run rfl).trans hr
  · trivial
-- whole
variable {NR : Bool → Nat → Nat → Int × Int × Int}
theorem wh_comes (x : NumF) (a b : Int) : Comes (tabNr x) nolv 84 [dcA a b] [] (.chk (x.okE 0 a 0) (.chk (x.okT (x.E 0 a 0) (x.kE 0 a 0) (wrN (b + 9))) (.ret (.dsl 0 (x.kT (x.E 0 a 0) (x.kE 0 a 0) (wrN (b + 9)))) [.flatI true (x.T (x.E 0 a 0) (x.kE 0 a 0) (wrN (b + 9)))]))) := by unfold Comes; kernel_rfl
theorem gW_ok : EntOK Tryz.prog 84 (gW (numF NR)) := fun args pre => by
  unfold gW; split
  · rename_i n m
    refine ⟨fun hb => ?_, fun _ => trivial⟩
    have hb := of_decide_eq_true hb
    have w : wrN (m + 9) = m + 9 := by unfold wrN; exact i64_in (by omega) (by omega)
    have h20 := nd_small (n := n.natAbs) (by omega)
    exact meets_ent (pre := []) (tabNr_ok (NR := NR)) host ((wh_comes (numF NR) n m).trans (by
      rw [chkT (okE0 (inI_iff.2 ⟨by omega, by omega⟩)), E0, kE0, w, chkT (okT_dg (by omega) (by omega)), T_dg, kT_dg]; rfl))
  · trivial
theorem gN1_ok (h : ∀ b N M, nd N < 100000 → nd M < 100000 → 0 < M → Meets Tryz.prog 81 [.bool b, .dsl 0 (nd N), .dsl 1 (nd M)] [FL N, FL M] (R3 (NR b N M)) [FL N, FL M]) : EntOK Tryz.prog 81 (gN1 (numF NR)) := fun args pre => by
  unfold gN1; split
  · rename_i b k k1 m l l1 t
    refine ⟨fun hb => ?_, fun _ => trivial⟩
    obtain ⟨h1, g2⟩ := Bool.and_eq_true_iff.1 hb
    obtain ⟨g3, h3⟩ := Bool.and_eq_true_iff.1 g2
    have h3 := of_decide_eq_true h3
    obtain ⟨a, ea, ta, rfl, na⟩ := isD_get h1
    obtain ⟨c, ec, tc, rfl, nc⟩ := isD_get g3
    rw [ec] at h3
    show Meets _ _ _ _ (R3 (NR b (nT l _) (nT l1 _))) _
    rw [ea, ec]
    exact meets_args (meets_fitV (l := l1) (t := t) (meets_fitF (m' := m) (l := l) (h b a c (by omega) (by omega) h3.2.2) (j := 0) rfl ta) (j := 1) rfl tc) fun E xs hx => by
      obtain ⟨a, zs, ha, hz, rfl⟩ := denL_cons.1 hx
      obtain ⟨b, ys, hb, hy, rfl⟩ := denL_cons.1 hz
      obtain ⟨c, us, hc, hu, rfl⟩ := denL_cons.1 hy
      exact denL_cons.2 ⟨a, _, ha, denL_cons.2 ⟨b, _, hb, denL_cons.2 ⟨c, us, den_asD hc, hu, rfl⟩, rfl⟩, rfl⟩
  · rename_i b k k1 m l m1 l1
    refine ⟨fun hb => ?_, fun _ => trivial⟩
    obtain ⟨h1, g2⟩ := Bool.and_eq_true_iff.1 hb
    obtain ⟨g3, h3⟩ := Bool.and_eq_true_iff.1 g2
    have h3 := of_decide_eq_true h3
    obtain ⟨a, ea, ta, rfl, na⟩ := isD_get h1
    obtain ⟨c, ec, tc, rfl, nc⟩ := isD_get g3
    rw [ec] at h3
    show Meets _ _ _ _ (R3 (NR b (nT l _) (nT l1 _))) _
    rw [ea, ec]
    exact meets_fitF (m' := m1) (l := l1) (meets_fitF (m' := m) (l := l) (h b a c (by omega) (by omega) h3.2.2) (j := 0) rfl ta) (j := 1) rfl tc
  · trivial
def tOf (x : NumF) : Tab := (84, gW x) :: (81, gN1 x) :: (86, eRt) :: tabNr x
theorem tOf_ok (h : ∀ b N M, nd N < 100000 → nd M < 100000 → 0 < M → Meets Tryz.prog 81 [.bool b, .dsl 0 (nd N), .dsl 1 (nd M)] [FL N, FL M] (R3 (NR b N M)) [FL N, FL M]) : TabOK Tryz.prog (tOf (numF NR)) := .cons gW_ok (.cons (gN1_ok h) (.cons eRtR_ok tabNr_ok))
/-- A decimal as a whole number of billionths, without its sign. -/
def wN (m e : Int) : Nat := m.natAbs * 10 ^ (e + 9).toNat
def badA : Ans := .ret (R3 (0, 0, 10)) []
def ofT (x : NumF) (a : Int) (r : Int × Int × Int) : Ans :=
  .chk (x.okE 0 a 0) (.chk (x.okN (decide (a < 0)) (x.E 0 a 0) (x.kE 0 a 0) [1] 1) (.br (r.2.2 != 0) badA (.chk (x.okE 2 r.1 r.2.1) (.chk (x.okE 0 a 0) (.chk (x.okT (x.E 0 a 0) (x.kE 0 a 0) 9)
    (.chk (x.okL (x.E 2 r.1 r.2.1) (x.kE 2 r.1 r.2.1) (x.T (x.E 0 a 0) (x.kE 0 a 0) 9) (x.kT (x.E 0 a 0) (x.kE 0 a 0) 9)) (.br (x.L (x.E 2 r.1 r.2.1) (x.kE 2 r.1 r.2.1) (x.T (x.E 0 a 0) (x.kE 0 a 0) 9) (x.kT (x.E 0 a 0) (x.kE 0 a 0) 9)) badA
    (.chk (x.okE 0 a 0) (.chk (x.okT (x.E 0 a 0) (x.kE 0 a 0) 9) (.chk (x.okE 2 r.1 r.2.1) (.chk (x.okL (x.T (x.E 0 a 0) (x.kE 0 a 0) 9) (x.kT (x.E 0 a 0) (x.kE 0 a 0) 9) (x.E 2 r.1 r.2.1) (x.kE 2 r.1 r.2.1))
    (.br (x.L (x.T (x.E 0 a 0) (x.kE 0 a 0) 9) (x.kT (x.E 0 a 0) (x.kE 0 a 0) 9) (x.E 2 r.1 r.2.1) (x.kE 2 r.1 r.2.1)) badA (.ret (R3 (r.1, r.2.1, 0)) [])))))))))))))
theorem of_comes (x : NumF) (a : Int) : Comes (tOf x) nolv 35 [.int .i64 a] [] (ofT x a (x.N (decide (a < 0)) (x.E 0 a 0) (x.kE 0 a 0) [1] 1)) := by unfold Comes; kernel_rfl
def ofV (a : Int) (r : Int × Int × Int) : Int × Int × Int := if r.2.2 = 0 ∧ wN r.1 r.2.1 = a.natAbs * 10 ^ 9 then (r.1, r.2.1, 0) else (0, 0, 10)
theorem of_run' {a : Int} {r : Int × Int × Int} (ha : inI a = true) (hr : r.2.2 = 0 → rightB r.1 r.2.1 = true) (hN : NR (decide (a < 0)) a.natAbs 1 = r) : (ofT (numF NR) a r).run pure2 = pure2 (R3 (ofV a r)) [] := by
  have hi := inI_iff.1 ha
  have h20 := nd_small (n := a.natAbs) (by omega)
  have oE : (numF NR).okE 0 a 0 = true := okE0 ha
  have oN : (numF NR).okN (decide (a < 0)) (dg a.natAbs) (nd a.natAbs) [1] 1 = true := by
    show (isD _ _ && (isD _ _ && decide _)) = true
    rw [isD_dg (by omega), Bool.true_and]
    have e1 : isD [1] 1 = true := by have := isD_dg (a := 1) (by rw [nd_one]; omega); rwa [dg_one, nd_one] at this
    have e2 : nT [1] 1 = 1 := by have := nT_dg 1; rwa [dg_one, nd_one] at this
    rw [e1, e2, Bool.true_and]; exact decide_eq_true (by omega)
  unfold ofT ofV
  rw [chkT oE, E0, kE0, chkT oN]
  by_cases h : r.2.2 = 0
  · have hR := of_decide_eq_true (hr h)
    have oE2 : (numF NR).okE 2 r.1 r.2.1 = true := decide_eq_true (by omega)
    have e2 : (numF NR).E 2 r.1 r.2.1 = dg (wN r.1 r.2.1) := rfl
    have k2 : (numF NR).kE 2 r.1 r.2.1 = nd (wN r.1 r.2.1) := rfl
    have w20 : nd (wN r.1 r.2.1) ≤ 100 := by
      have h1 := nd_pow (x := r.1.natAbs) (k := (r.2.1 + 9).toNat)
      have h2 := nd_small (n := r.1.natAbs) (by omega)
      unfold wN; omega
    have t9 := nd_pow (x := a.natAbs) (k := (9 : Int).toNat)
    have t9' : nd (a.natAbs * 10 ^ (9 : Int).toNat) ≤ 100 := by omega
    rw [brF (bne_eq_false_iff_eq.2 h), chkT oE2, chkT oE, chkT (okT_dg (by omega) (by omega)), e2, k2, T_dg, kT_dg, chkT (okL_dg (by omega) (by omega)), L_dg]
    by_cases h3 : wN r.1 r.2.1 < a.natAbs * 10 ^ (9 : Int).toNat
    · rw [brT (decide_eq_true h3), if_neg (fun hh => by rw [hh.2] at h3; exact absurd h3 (Nat.lt_irrefl _))]; rfl
    · rw [brF (decide_eq_false h3), chkT oE, chkT (okT_dg (by omega) (by omega)), chkT oE2, chkT (okL_dg (by omega) (by omega)), L_dg]
      by_cases h4 : a.natAbs * 10 ^ (9 : Int).toNat < wN r.1 r.2.1
      · rw [brT (decide_eq_true h4), if_neg (fun hh => by rw [hh.2] at h4; exact absurd h4 (Nat.lt_irrefl _))]; rfl
      · rw [brF (decide_eq_false h4), if_pos ⟨h, by rw [show (9 : Int).toNat = 9 from rfl] at h3 h4; omega⟩]; rfl
  · rw [brT (bne_iff_ne.2 h), if_neg (fun hh => h hh.1)]; rfl
-- quotients
def divT (x : NumF) (a b c d : Int) (A : List Int) (k : Nat) (C : List Int) (j : Nat) : Ans :=
  .br (!rightB a b) badA (.br (!rightB c d) badA (.br (c == 0) (.ret (R3 (0, 0, 11)) []) (.chk (x.okE 2 a b) (.chk (x.okE 2 c d) (.chk (x.okN (decide (a < 0) != decide (c < 0)) A k C j) (.ret (R3 (x.N (decide (a < 0) != decide (c < 0)) A k C j)) []))))))
theorem div_comes (x : NumF) (a b c d : Int) : Comes (tOf x) nolv 36 [dcA a b, dcA c d] [] (divT x a b c d (x.E 2 a b) (x.kE 2 a b) (x.E 2 c d) (x.kE 2 c d)) := by unfold Comes; kernel_rfl
theorem w_nd {a b : Int} (h : rightB a b = true) : nd (wN a b) ≤ 100 := by
  have hR := of_decide_eq_true h
  have h1 := nd_pow (x := a.natAbs) (k := (b + 9).toNat)
  have h2 := nd_small (n := a.natAbs) (by omega)
  unfold wN; omega
theorem div_run' {a b c d : Int} {r : Int × Int × Int} (hA : rightB a b = true) (hC : rightB c d = true) (h0 : c ≠ 0) (hN : NR (decide (a < 0) != decide (c < 0)) (wN a b) (wN c d) = r) : (divT (numF NR) a b c d ((numF NR).E 2 a b) ((numF NR).kE 2 a b) ((numF NR).E 2 c d) ((numF NR).kE 2 c d)).run pure2 = pure2 (R3 r) [] := by
  have hR := of_decide_eq_true hA
  have hS := of_decide_eq_true hC
  have wa := w_nd hA
  have wc := w_nd hC
  have hp : 0 < wN c d := Nat.mul_pos (by omega) (Nat.pow_pos (by decide))
  have e : ∀ a b, (numF NR).E 2 a b = dg (wN a b) := fun _ _ => rfl
  have k : ∀ a b, (numF NR).kE 2 a b = nd (wN a b) := fun _ _ => rfl
  have o1 : (numF NR).okE 2 a b = true := decide_eq_true (by omega)
  have o2 : (numF NR).okE 2 c d = true := decide_eq_true (by omega)
  have oN : (numF NR).okN (decide (a < 0) != decide (c < 0)) (dg (wN a b)) (nd (wN a b)) (dg (wN c d)) (nd (wN c d)) = true := by
    show (isD _ _ && (isD _ _ && decide _)) = true
    rw [isD_dg (by omega), isD_dg (by omega), nT_dg, Bool.true_and, Bool.true_and]; exact decide_eq_true (by omega)
  have eN : (numF NR).N (decide (a < 0) != decide (c < 0)) (dg (wN a b)) (nd (wN a b)) (dg (wN c d)) (nd (wN c d)) = r := by
    show NR _ (nT _ _) (nT _ _) = r
    rw [nT_dg, nT_dg]; exact hN
  unfold divT
  rw [brF (b := !rightB a b) (by rw [hA]; rfl), brF (b := !rightB c d) (by rw [hC]; rfl), brF (beq_eq_false_iff_ne.2 h0), chkT o1, chkT o2, e, e, k, k, chkT oN, eN]; rfl
/-- What is rounded is right. -/
theorem nearG_in {N M : Nat} {p : Nat × Int} : ∀ (f j : Nat), j + f = 19 → nearG N M f j = some p → p.1 ≤ 999999999999999 ∧ -9 ≤ p.2 ∧ p.2 ≤ 9
  | 0, j, h, hp => by simp [nearG] at hp
  | f + 1, j, h, hp => by
    rw [nearG] at hp
    split at hp
    · rename_i hc; cases hp; exact ⟨hc, by simp only; omega, by simp only; omega⟩
    · exact nearG_in f (j + 1) (by omega) hp
theorem trimD_right : ∀ (n : Nat) (m e : Int), e + n = 9 → -9 ≤ e → m.natAbs ≤ 999999999999999 → m ≠ 0 → rightB (trimD n m e).1 (trimD n m e).2 = true
  | 0, m, e, h, h1, h2, h3 => by unfold trimD; exact decide_eq_true ⟨by omega, by omega, by omega, by omega, fun e => absurd e h3, fun _ => .inl (by omega)⟩
  | n + 1, m, e, h, h1, h2, h3 => by
    unfold trimD
    split
    · rename_i hq
      have h4 : (m.tdiv 10).natAbs = m.natAbs / 10 := Int.natAbs_tdiv m 10
      have h5 : (m.tmod 10).natAbs = m.natAbs % 10 := Int.natAbs_tmod m 10
      rw [hq] at h5
      have h6 : (0 : Int).natAbs = 0 := rfl
      exact trimD_right n _ _ (by omega) (by omega) (by omega) (by omega)
    · rename_i hq
      exact decide_eq_true ⟨by omega, by omega, by omega, by omega, fun e => absurd e h3, fun _ => .inr hq⟩
theorem trimmedS_right {m e : Int} (h : -9 ≤ e ∧ e ≤ 9) (hm : m.natAbs ≤ 999999999999999) : rightB (trimmedS m e).1 (trimmedS m e).2 = true := by
  unfold trimmedS
  split
  · rfl
  · rename_i h0; exact trimD_right _ _ _ (by omega) h.1 hm h0
theorem rightB_neg {m e : Int} (h : rightB m e = true) : rightB (-m) e = true := by
  have h := of_decide_eq_true h
  refine decide_eq_true ⟨by omega, by omega, by omega, by omega, fun h0 => h.2.2.2.2.1 (by omega), fun h0 => ?_⟩
  rcases h.2.2.2.2.2 (by omega) with h1 | h1
  · exact .inl h1
  · exact .inr (by rw [Int.neg_tmod]; omega)
theorem nrR_right (b : Bool) (N M : Nat) : (nrR b N M).2.2 = 0 → rightB (nrR b N M).1 (nrR b N M).2.1 = true := by
  unfold nrR nearD nearX
  cases h : nearG N M 19 0 with
  | none => intro e; exact absurd e (by simp [nearXo])
  | some p =>
    intro _
    obtain ⟨h1, h2⟩ := nearG_in 19 0 rfl h
    have key := trimmedS_right (m := (p.1 : Int)) h2 (by omega)
    show rightB (nearDo b (some p)).1 (nearDo b (some p)).2 = true
    cases b with
    | false => exact key
    | true => exact rightB_neg key
theorem ofV_right (a : Int) (r : Int × Int × Int) (hr : r.2.2 = 0 → rightB r.1 r.2.1 = true) : rightB (ofV a r).1 (ofV a r).2.1 = true := by
  unfold ofV; split
  · rename_i h; exact hr h.1
  · rfl
def ofR (a : Int) : Int × Int × Int := ofV a (nrR (decide (a < 0)) a.natAbs 1)
theorem of_meets (a : Int) (ha : inI a = true) : Meets Tryz.prog 35 [.int .i64 a] [] (R3 (ofR a)) [] := by
  unfold ofR
  have key : ∀ (NR : Bool → Nat → Nat → Int × Int × Int) (r : Int × Int × Int), (∀ b N M, nd N < 100000 → nd M < 100000 → 0 < M → Meets Tryz.prog 81 [.bool b, .dsl 0 (nd N), .dsl 1 (nd M)] [FL N, FL M] (R3 (NR b N M)) [FL N, FL M]) → NR (decide (a < 0)) a.natAbs 1 = r → (r.2.2 = 0 → rightB r.1 r.2.1 = true) → Meets Tryz.prog 35 [.int .i64 a] [] (R3 (ofV a r)) [] := fun NR r h hr hR => by
    have hN : (numF NR).N (decide (a < 0)) ((numF NR).E 0 a 0) ((numF NR).kE 0 a 0) [1] 1 = r := by
      have e2 : nT [1] 1 = 1 := by have := nT_dg 1; rwa [dg_one, nd_one] at this
      show NR _ (nT (dg a.natAbs) (nd a.natAbs)) (nT [1] 1) = r
      rw [nT_dg, e2]; exact hr
    exact meets_ent (pre := []) (post := []) (tOf_ok h) host ((of_comes (numF NR) a).trans (by rw [hN]; exact of_run' ha hR hr))
  exact key nrR _ nrR_ok rfl (nrR_right _ _ _)
theorem div_meets (a b c d : Int) (hA : rightB a b = true) (hC : rightB c d = true) (h0 : c ≠ 0) : Meets Tryz.prog 36 [dcA a b, dcA c d] [] (R3 (nrR (decide (a < 0) != decide (c < 0)) (wN a b) (wN c d))) [] := by
  have key : ∀ (NR : Bool → Nat → Nat → Int × Int × Int) (r : Int × Int × Int), (∀ b N M, nd N < 100000 → nd M < 100000 → 0 < M → Meets Tryz.prog 81 [.bool b, .dsl 0 (nd N), .dsl 1 (nd M)] [FL N, FL M] (R3 (NR b N M)) [FL N, FL M]) → NR (decide (a < 0) != decide (c < 0)) (wN a b) (wN c d) = r → Meets Tryz.prog 36 [dcA a b, dcA c d] [] (R3 r) [] := fun NR r h hr =>
    meets_ent (pre := []) (post := []) (tOf_ok h) host ((div_comes (numF NR) a b c d).trans (div_run' hA hC h0 hr))
  exact key nrR _ nrR_ok rfl
end Go.Proofs.YtdomenmfkbfakaaGreatDoor

/- Layer 3: plain values as rows; which are the same, which are right. -/
set_option linter.unusedVariables false
set_option linter.unusedSimpArgs false
namespace Go.Proofs.YtdomenmfkbfakaaGreatDoor
open Go Sx
/-- The cells of a value: kind, number, text, truth, error, rows, columns, list, function, code. -/
def shV : List CK := [.int .i64, .int .i64, .int .i64, .str, .bool, .int .i64, .int .i64, .int .i64, .nils, .int .i64, .nils, .nils]
abbrev vL (k m e : Int) (s : List UInt8) (b : Bool) (r h w : Int) (l : AV) (f : Int) : AV := .agg [.int .i64 k, .int .i64 m, .int .i64 e, .str s, .bool b, .int .i64 r, .int .i64 h, .int .i64 w, l, .int .i64 f, .nilslice, .nilslice]
abbrev rk (r : List CV) : Int := (rowCV r 0).n
abbrev rm (r : List CV) : Int := (rowCV r 1).n
abbrev re (r : List CV) : Int := (rowCV r 2).n
abbrev rs (r : List CV) : List UInt8 := (rowCV r 3).s
abbrev rb (r : List CV) : Bool := (rowCV r 4).b
abbrev rr (r : List CV) : Int := (rowCV r 5).n
abbrev rh (r : List CV) : Int := (rowCV r 6).n
abbrev rw_ (r : List CV) : Int := (rowCV r 7).n
abbrev rf (r : List CV) : Int := (rowCV r 9).n
/-- A row as a value; fields as a row. -/
abbrev vR (r : List CV) : AV := vL (rk r) (rm r) (re r) (rs r) (rb r) (rr r) (rh r) (rw_ r) .nilslice (rf r)
def mkR (k m e : Int) (s : List UInt8) (b : Bool) (r h w f : Int) : List CV := [.mk k [] false [], .mk m [] false [], .mk e [] false [], .mk 0 s false [], .mk 0 [] b [], .mk r [] false [], .mk h [] false [], .mk w [] false [], .mk 0 [] false [], .mk f [] false [], .mk 0 [] false [], .mk 0 [] false []]
/-- Are fields the same? -/
def sameF (k m e : Int) (s : List UInt8) (b : Bool) (r h w f k' m' e' : Int) (s' : List UInt8) (b' : Bool) (r' h' w' f' : Int) : Bool :=
  k == k' && (m == m' && (e == e' && (s == s' && (b == b' && (r == r' && (h == h' && (w == w' && f == f')))))))
abbrev samR (x y : List CV) : Bool := sameF (rk x) (rm x) (re x) (rs x) (rb x) (rr x) (rh x) (rw_ x) (rf x) (rk y) (rm y) (re y) (rs y) (rb y) (rr y) (rh y) (rw_ y) (rf y)
def sameT (k m e : Int) (s : List UInt8) (b : Bool) (r h w f k' m' e' : Int) (s' : List UInt8) (b' : Bool) (r' h' w' f' : Int) (pre : List PObj) (x : Ans) : Ans :=
  let n : Ans := .ret (.bool false) pre
  .br (k != k') n (.br (!(m == m' && (e == e' && true))) n (.br (!(s == s')) n (.br (!(b == b')) n (.br (r != r') n (.br (h != h') n (.br (w != w') n (.br (f != f') n x)))))))
theorem sameT_run {k m e : Int} {s : List UInt8} {b : Bool} {r h w f k' m' e' : Int} {s' : List UInt8} {b' : Bool} {r' h' w' f' : Int} {pre : List PObj} {x : Ans} :
    (sameT k m e s b r h w f k' m' e' s' b' r' h' w' f' pre x).run pure2 = (Ans.br (sameF k m e s b r h w f k' m' e' s' b' r' h' w' f') x (.ret (.bool false) pre)).run pure2 := by
  unfold sameT sameF
  simp only [Ans.run, bne]
  cases k == k' <;> cases m == m' <;> cases e == e' <;> cases s == s' <;> try rfl
  cases b == b' <;> cases r == r' <;> cases h == h' <;> cases w == w' <;> try rfl
  cases f == f' <;> rfl
theorem same_pp (k m e : Int) (s : List UInt8) (b : Bool) (r h w f k' m' e' : Int) (s' : List UInt8) (b' : Bool) (r' h' w' f' : Int) : Comes [] nolv 26 [vL k m e s b r h w .nilslice f, vL k' m' e' s' b' r' h' w' .nilslice f'] [] (sameT k m e s b r h w f k' m' e' s' b' r' h' w' f' [] (.ret (.bool true) [])) := by unfold Comes; kernel_rfl
def eSamP : Ent := fun args pre => match args, pre with
  | [.agg [.int .i64 k, .int .i64 m, .int .i64 e, .str s, .bool b, .int .i64 r, .int .i64 h, .int .i64 w, .nilslice, .int .i64 f, .nilslice, .nilslice], .agg [.int .i64 k', .int .i64 m', .int .i64 e', .str s', .bool b', .int .i64 r', .int .i64 h', .int .i64 w', .nilslice, .int .i64 f', .nilslice, .nilslice]], [] =>
    .ret (.bool (sameF k m e s b r h w f k' m' e' s' b' r' h' w' f')) []
  | _, _ => .fail
theorem eSamP_ok : EntOK Tryz.prog 26 eSamP := fun args pre => by
  unfold eSamP
  split
  · exact of_run (ans_comes .nil (same_pp ..)) fun x hx => by
      rw [sameT_run, ← hx]
      simp only [Ans.run]
      generalize sameF _ _ _ _ _ _ _ _ _ _ _ _ _ _ _ _ _ _ = q
      cases q <;> rfl
  · trivial
-- which are right
def eIsT (tx : List UInt8 → Bool) : Ent := fun args pre => match args, pre with
  | [.str l], [] => .chk (decide (l.length ≤ 1000000)) (.ret (.bool (tx l)) [])
  | _, _ => .fail
def zF (m e : Int) (s : List UInt8) (b : Bool) (r h w f : Int) : Bool := sameF 0 m e s b r h w f 0 0 0 [] false 0 0 0 0
def rightF (tx : List UInt8 → Bool) (k m e : Int) (s : List UInt8) (b : Bool) (r h w f : Int) : Bool :=
  if k = 0 then zF m e s b r h w f else if k = 1 then Dq.rightB m e && zF 0 0 s b r h w f else if k = 2 then tx s && zF m e [] b r h w f else if k = 3 then zF m e s false r h w f
  else if k = 4 then decide (1 ≤ r ∧ r ≤ 9) && zF m e s b 0 h w f else false
abbrev rigR (tx : List UInt8 → Bool) (x : List CV) : Bool := rightF tx (rk x) (rm x) (re x) (rs x) (rb x) (rr x) (rh x) (rw_ x) (rf x)
def tRt (tx : List UInt8 → Bool) : Tab := [(67, eRt), (51, eIsT tx), (26, eSamP)]
section
variable (tx : List UInt8 → Bool) (m e : Int) (s : List UInt8) (b : Bool) (r h w f : Int)
def bT (q : Bool) : Ans := .ret (.bool q) []
theorem right_0 : Comes (tRt tx) nolv 27 [vL 0 m e s b r h w .nilslice f] [] (bT (zF m e s b r h w f)) := by unfold Comes; kernel_rfl
theorem right_1 : Comes (tRt tx) nolv 27 [vL 1 m e s b r h w .nilslice f] [] (.br (Dq.rightB m e) (bT (zF 0 0 s b r h w f)) (bT false)) := by unfold Comes; kernel_rfl
theorem right_2 : Comes (tRt tx) nolv 27 [vL 2 m e s b r h w .nilslice f] [] (.chk (decide (s.length ≤ 1000000)) (.br (tx s) (bT (zF m e [] b r h w f)) (bT false))) := by unfold Comes; kernel_rfl
theorem right_3 : Comes (tRt tx) nolv 27 [vL 3 m e s b r h w .nilslice f] [] (bT (zF m e s false r h w f)) := by unfold Comes; kernel_rfl
theorem right_4 : Comes (tRt tx) nolv 27 [vL 4 m e s b r h w .nilslice f] [] (.br (decide (r ≥ 1)) (.br (decide (r ≤ 9)) (bT (zF m e s b 0 h w f)) (bT false)) (bT false)) := by unfold Comes; kernel_rfl
end
def eRigP (tx : List UInt8 → Bool) : Ent := fun args pre => match args, pre with
  | [.agg [.int .i64 k, .int .i64 m, .int .i64 e, .str s, .bool b, .int .i64 r, .int .i64 h, .int .i64 w, .nilslice, .int .i64 f, .nilslice, .nilslice]], [] =>
    .chk (decide (0 ≤ k ∧ k ≤ 4)) (.chk (decide (s.length ≤ 1000000)) (.ret (.bool (rightF tx k m e s b r h w f)) []))
  | _, _ => .fail
theorem eRigP_ok {tx : List UInt8 → Bool} (ht : EntOK Tryz.prog 51 (eIsT tx)) : EntOK Tryz.prog 27 (eRigP tx) := fun args pre => by
  unfold eRigP
  split
  · rename_i k m e s b r h w f
    refine ⟨fun g1 => ⟨fun g2 => ?_, fun _ => trivial⟩, fun _ => trivial⟩
    have g1 := of_decide_eq_true g1
    have T : TabOK Tryz.prog (tRt tx) := .cons eRtD_ok (.cons ht (.cons eSamP_ok .nil))
    have hk : k = 0 ∨ k = 1 ∨ k = 2 ∨ k = 3 ∨ k = 4 := by omega
    rcases hk with rfl | rfl | rfl | rfl | rfl
    · exact of_run (ans_comes T (right_0 ..)) fun x hx => by rw [← hx]; rfl
    · exact of_run (ans_comes T (right_1 ..)) fun x hx => by
        rw [← hx]; show _ = pure2 (.bool (Dq.rightB m e && zF 0 0 s b r h w f)) []
        cases Dq.rightB m e <;> rfl
    · exact of_run (ans_comes T (right_2 ..)) fun x hx => by
        rw [← hx, chkT g2]; show _ = pure2 (.bool (tx s && zF m e [] b r h w f)) []
        cases hq : tx s <;> simp only [Ans.run, hq, bT, bcond, Bool.true_and, Bool.false_and]
    · exact of_run (ans_comes T (right_3 ..)) fun x hx => by rw [← hx]; rfl
    · exact of_run (ans_comes T (right_4 ..)) fun x hx => by
        rw [← hx]; show _ = pure2 (.bool (decide (1 ≤ r ∧ r ≤ 9) && zF m e s b 0 h w f)) []
        by_cases h1 : 1 ≤ r
        · rw [brT (decide_eq_true h1)]
          by_cases h2 : r ≤ 9
          · rw [brT (decide_eq_true h2), decide_eq_true (show 1 ≤ r ∧ r ≤ 9 from ⟨h1, h2⟩)]; rfl
          · rw [brF (decide_eq_false h2), decide_eq_false (fun h => h2 h.2)]; rfl
        · rw [brF (decide_eq_false h1), decide_eq_false (fun h => h1 h.1)]; rfl
  · trivial
end Go.Proofs.YtdomenmfkbfakaaGreatDoor

/- Layer 3: lists of plain values: which are the same. -/
set_option linter.unusedVariables false
set_option linter.unusedSimpArgs false
namespace Go.Proofs.YtdomenmfkbfakaaGreatDoor
open Go Sx
abbrev fR (R : List (List CV)) : PObj := .raw (.flatR false shV R)
/-- A list that is handed in: how many, which rows; it grows, or is never written. -/
def rowsIn (n : Nat) (v : AV) (o : PObj) : Option (Nat × List (List CV)) := match v, o with
  | .dsl j k, .raw (.flatR f sh R) => if Nat.beq j n && shEq sh shV then some (k, R) else none
  | .vec j k, .vecR sh R t => if Nat.beq j n && shEq sh shV then some (k, R) else none
  | _, _ => none
theorem rowsIn_spec {n k : Nat} {v : AV} {o : PObj} {R : List (List CV)} (h : rowsIn n v o = some (k, R)) : (v = .dsl n k ∧ ∃ f, o = .raw (.flatR f shV R)) ∨ (v = .vec n k ∧ ∃ t, o = .vecR shV R t) := by
  unfold rowsIn at h
  split at h
  · split at h
    · rename_i hc
      rw [Bool.and_eq_true, beqT] at hc
      obtain ⟨rfl, h2⟩ := hc
      obtain rfl := shEq_of h2
      cases h; exact .inl ⟨rfl, _, rfl⟩
    · cases h
  · split at h
    · rename_i hc
      rw [Bool.and_eq_true, beqT] at hc
      obtain ⟨rfl, h2⟩ := hc
      obtain rfl := shEq_of h2
      cases h; exact .inr ⟨rfl, _, rfl⟩
    · cases h
  · cases h
theorem rowsIn_den {n k : Nat} {v : AV} {o : PObj} {R : List (List CV)} (h : rowsIn n v o = some (k, R)) {E : Env} {x : Value} (hx : den E v = some x) : den E (.dsl n k) = some x := by
  rcases rowsIn_spec h with ⟨rfl, _⟩ | ⟨rfl, _⟩
  · exact hx
  · exact den_seal hx
/-- A contract of rows that are never written, of such rows as are handed in. -/
theorem meets_rows {f : FuncId} {args args' : List AV} {pre post : List AObj} {res : AV} {j n k : Nat} {v : AV} {o : PObj} {R : List (List CV)} (hs : rowsIn n v o = some (k, R)) (h : Meets Tryz.prog f args pre res post) (hj : pre[j]? = some (.flatR false shV R)) (ha : ∀ E xs, denL E args' = some xs → denL E args = some xs) :
    Meets Tryz.prog f args' (pre.set j o.toA) res (post.set j o.toA) := by
  refine meets_args ?_ ha
  rcases rowsIn_spec hs with ⟨_, f', rfl⟩ | ⟨_, t, rfl⟩
  · exact meets_fitO h hj rfl (fun E w b c ho => ho) rfl fun b c k ht => ht
  · exact meets_fitR h hj
theorem den_L {E : Env} {k m e : Int} {s : List UInt8} {b : Bool} {r h w f : Int} {l l' : AV} {x : Value} (hl : ∀ y, den E l = some y → den E l' = some y) (hx : den E (vL k m e s b r h w l f) = some x) : den E (vL k m e s b r h w l' f) = some x := by
  simp only [den, denL] at hx ⊢
  cases hd : den E l with
  | none => rw [hd] at hx; simp at hx
  | some y => rw [hd] at hx; rw [hl y hd]; exact hx
-- slices.EqualFunc
def inR (i : Int) (R : List (List CV)) : Bool := decide (i.toNat < R.length) && true && true
/-- Are so many rows the same, from one on? -/
def eqFrom (R S : List (List CV)) : Nat → Nat → Bool
  | 0, _ => true
  | n + 1, i => samR (Sx.rowAt R i) (Sx.rowAt S i) && eqFrom R S n (i + 1)
theorem inR_nat {j : Nat} {R : List (List CV)} (h : j < R.length) : inR (j : Int) R = true := by unfold inR; rw [Int.toNat_natCast, decide_eq_true h]; rfl
def eqRows (a b : Nat) (R S : List (List CV)) : Bool := Nat.beq a b && eqFrom R S a 0
end Go.Proofs.YtdomenmfkbfakaaGreatDoor
