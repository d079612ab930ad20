/- What the decimals' deeds come to is what the document's own answers come to: plain mathematics. -/
import Derived.Test.YtmgiefeggkikcaaDecL
import Derived.Test.YtmgiefeggkikcaaRfI
set_option linter.unusedVariables false
set_option linter.unusedSimpArgs false
namespace Go.Proofs.Ytmgiefeggkikcaa
open Go Sx Rf Dc Rr

theorem rnd_scale {n d c : Nat} (hc : 0 < c) : rndE (n * c) (d * c) = rndE n d := by
  unfold rndE
  rw [Nat.mul_mod_mul_right, Nat.mul_div_mul_right _ _ hc, ← Nat.add_mul]
  have h1 : d * c < (n % d + n % d) * c ↔ d < n % d + n % d := Nat.mul_lt_mul_right hc
  have h2 : (n % d + n % d) * c < d * c ↔ n % d + n % d < d := Nat.mul_lt_mul_right hc
  simp only [h1, h2]
/-- To round, the ratio counts alone. -/
theorem rnd_ratio {n d n' d' : Nat} (hd : 0 < d) (hd' : 0 < d') (h : n * d' = n' * d) : rndE n d = rndE n' d' := by
  rw [← rnd_scale (n := n) (d := d) hd', h, Nat.mul_comm d d', rnd_scale hd]

theorem even_rnd {n b T g : Nat} (hb : 0 < b) (hT : 1 ≤ T) (hT2 : T ≤ 88) (hg1 : g ∣ n) (hg2 : g ∣ b * (5 * 10 ^ (T - 1))) (hbg : b ≤ g) (hV : n / b < 10 ^ 88) :
    evenN (digs 88 ((n / b : Nat) : Int)) (88 - T) = ((rndE n (b * 10 ^ T) : Nat) : Int) := by
  have hp : (10 : Int) ^ T = ((10 ^ T : Nat) : Int) := by push_cast; rfl
  have t10 : 10 ^ T = 2 * (5 * 10 ^ (T - 1)) := by
    obtain ⟨k, rfl⟩ : ∃ k, T = k + 1 := ⟨T - 1, by omega⟩
    rw [Nat.add_sub_cancel, Nat.pow_succ]; omega
  have htake : val ((digs 88 ((n / b : Nat) : Int)).take (88 - T)) = ((n / (b * 10 ^ T) : Nat) : Int) := by
    rw [digs_take _ (by omega), val_digs_mod, show 88 - (88 - T) = T by omega, hp, ← Int.natCast_ediv, Nat.div_div_eq_div_mul]
    have hlt : n / b / 10 ^ T < 10 ^ (88 - T) := by
      refine Nat.div_lt_of_lt_mul ?_
      rw [← Nat.pow_add, show T + (88 - T) = 88 by omega]; exact hV
    rw [Nat.div_div_eq_div_mul] at hlt
    rw [show (10 : Int) ^ (88 - T) = ((10 ^ (88 - T) : Nat) : Int) by push_cast; rfl, ← Int.natCast_emod, Nat.mod_eq_of_lt hlt]
  have hdrop : (digs 88 ((n / b : Nat) : Int)).drop (88 - T) = digs T ((n / b : Nat) : Int) := by
    rw [digs_drop _ (by omega), show 88 - (88 - T) = T by omega]
  have hrest : val (digs T ((n / b : Nat) : Int)) = ((n % (b * 10 ^ T) / b : Nat) : Int) := by
    rw [val_digs_mod, hp, ← Int.natCast_emod, Nat.mod_mul_right_div_self]
  unfold evenN upB
  rw [htake, hdrop, hrest, digs_length]
  rw [show (5 : Int) * 10 ^ (T - 1) = ((5 * 10 ^ (T - 1) : Nat) : Int) by push_cast; rfl]
  unfold rndE
  generalize hh : 5 * 10 ^ (T - 1) = half at *
  have hgR : g ∣ n % (b * 10 ^ T) := (Nat.dvd_mod_iff (by rw [t10, show b * (2 * half) = b * half * 2 by rw [Nat.mul_comm 2, Nat.mul_assoc]]; exact Nat.dvd_mul_right_of_dvd hg2 2)).2 hg1
  rw [t10] at *
  generalize n % (b * (2 * half)) = rem at *
  generalize n / (b * (2 * half)) = q at *
  have hgap : b * half < rem → b * half + b ≤ rem := fun h => by
    have h1 : g ∣ rem - b * half := Nat.dvd_sub hgR hg2
    have h2 := Nat.le_of_dvd (by omega) h1
    omega
  have e2 : b * (2 * half) = b * half + b * half := by rw [Nat.two_mul, Nat.mul_add]
  have d1 := Nat.div_add_mod rem b
  have d2 := Nat.mod_lt rem hb
  generalize rem / b = t at *
  generalize rem % b = z at *
  have key : (decide (((half : Nat) : Int) < (t : Int) ∨ (t : Int) = ((half : Nat) : Int) ∧ ((q : Nat) : Int) % 2 = 1) = true) ↔ (b * (2 * half) < rem + rem ∨ (¬ rem + rem < b * (2 * half) ∧ q / 10 ^ 0 % 10 % 2 = 1)) := by
    rw [decide_eq_true_eq, e2, Nat.pow_zero, Nat.div_one]
    rcases Nat.lt_trichotomy t half with c | c | c
    · have := Nat.mul_le_mul_left b (Nat.succ_le_of_lt c)
      rw [Nat.mul_succ] at this
      constructor
      · intro h; omega
      · intro h; omega
    · subst c
      constructor
      · intro h; right; omega
      · intro h
        right
        refine ⟨rfl, ?_⟩
        rcases h with h | h
        · have := hgap (by omega); omega
        · omega
    · have := Nat.mul_le_mul_left b (Nat.succ_le_of_lt c)
      rw [Nat.mul_succ] at this
      constructor
      · intro h; left; omega
      · intro h; left; omega
  by_cases hk : (b * (2 * half) < rem + rem ∨ (¬ rem + rem < b * (2 * half) ∧ q / 10 ^ 0 % 10 % 2 = 1))
  · rw [if_pos hk, if_pos (key.2 hk)]; push_cast; rfl
  · rw [if_neg hk, if_neg (fun h => hk (key.1 h))]

theorem trimD_neg : ∀ (n : Nat) (m e : Int), trimD n (-m) e = (-(trimD n m e).1, (trimD n m e).2)
  | 0, m, e => rfl
  | n + 1, m, e => by
    simp only [trimD]
    rw [Int.neg_tmod, Int.neg_tdiv]
    by_cases h : m.tmod 10 = 0
    · rw [if_pos (by omega), if_pos h, trimD_neg n]
    · rw [if_neg (by omega), if_neg h]
theorem trimmedS_sgn (b : Bool) (m e : Int) : trimmedS (if b = true then -m else m) e = (sgn b (trimmedS m e).1, (trimmedS m e).2) := by
  cases b with
  | false => simp [sgn]
  | true =>
    simp only [if_true, sgn, trimmedS]
    by_cases h : m = 0
    · subst h; simp
    · rw [if_neg (by omega), if_neg h, trimD_neg]

theorem go_bridge {ds : List Int} {N M : Nat} (h : ∀ j, j < 19 → evenN ds (57 - j) = ((rndE (nE N ((j : Int) - 9)) (dE M ((j : Int) - 9)) : Nat) : Int)) : ∀ (f j : Nat), f + j ≤ 19 → nearGo ds f j = (nearG N M f j).map fun p => ((p.1 : Int), p.2)
  | 0, j, _ => rfl
  | f + 1, j, hj => by
    simp only [nearGo, nearG]
    rw [h j (by omega)]
    by_cases c : rndE (nE N ((j : Int) - 9)) (dE M ((j : Int) - 9)) ≤ 999999999999999
    · rw [if_pos c, if_pos (by omega)]; rfl
    · rw [if_neg c, if_neg (by omega)]; exact go_bridge h f (j + 1) (by omega)
theorem near_bridge {ds : List Int} {N M : Nat} (mx : Bool) (h : ∀ j, j < 19 → evenN ds (57 - j) = ((rndE (nE N ((j : Int) - 9)) (dE M ((j : Int) - 9)) : Nat) : Int)) : nearM mx ds = nearD mx N M ∧ nearE ds = nearX N M := by
  have hg := go_bridge h 19 0 (by omega)
  unfold nearM nearE nearD nearX
  rw [hg]
  cases nearG N M 19 0 with
  | none => exact ⟨rfl, rfl⟩
  | some p => exact ⟨trimmedS_sgn mx _ _, rfl⟩

end Go.Proofs.Ytmgiefeggkikcaa
