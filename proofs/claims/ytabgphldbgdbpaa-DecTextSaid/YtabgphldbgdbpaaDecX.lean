/- What the statements on decimals ask, by plain mathematics. -/
import Derived.Test.YtabgphldbgdbpaaDecW
set_option linter.unusedVariables false
set_option linter.unusedSimpArgs false
set_option maxRecDepth 20000
namespace Go.Proofs.Ytabgphldbgdbpaa
open Go Sx Dc
attribute [local semireducible] aV sV nearV mV qV

theorem okV_of {v : Int} (h : -(10 ^ 87) ≤ v ∧ v ≤ 10 ^ 87) : okV v := by
  unfold okV
  have : ((v.natAbs : Nat) : Int) < ((10 ^ 88 : Nat) : Int) := by
    have e : ((10 ^ 88 : Nat) : Int) = 10 * 10 ^ 87 := by decide
    rw [e]; omega
  exact_mod_cast this
theorem sV_le {m e : Int} (h : rightB m e = true) : -(10 ^ 64) ≤ sV m e ∧ sV m e ≤ 10 ^ 64 := by
  obtain ⟨a1, a2, a3, a4, a5, a6⟩ := right_spec h
  have h1 := sV_abs m e
  have h2 : ((m.natAbs : Nat) : Int) * 10 ^ (e + 40).toNat ≤ 999999999999999 * 10 ^ 49 := by
    refine Int.mul_le_mul (by omega) (pow_mono (by omega)) (Int.le_of_lt (pow_pos' _)) (by omega)
  have h3 : (999999999999999 * 10 ^ 49 : Int) ≤ 10 ^ 64 := by decide
  generalize (10 : Int) ^ 64 = B at *
  generalize (999999999999999 * 10 ^ 49 : Int) = C at *
  omega
theorem big87 : (2 * 10 ^ 64 : Int) ≤ 10 ^ 87 := by decide
theorem okV_add {am ae bm be : Int} (ha : rightB am ae = true) (hb : rightB bm be = true) : okV (sV am ae + sV bm be) := by
  have h1 := sV_le ha; have h2 := sV_le hb; have h3 := big87
  refine okV_of ?_
  generalize (10 : Int) ^ 64 = B at *
  generalize (10 : Int) ^ 87 = C at *
  omega
theorem okV_sub {am ae bm be : Int} (ha : rightB am ae = true) (hb : rightB bm be = true) : okV (sV am ae - sV bm be) := by
  have h1 := sV_le ha; have h2 := sV_le hb; have h3 := big87
  refine okV_of ?_
  generalize (10 : Int) ^ 64 = B at *
  generalize (10 : Int) ^ 87 = C at *
  omega
theorem okV_mul {am ae bm be : Int} (ha : rightB am ae = true) (hb : rightB bm be = true) : okV (mV am ae bm be) := by
  obtain ⟨a1, a2, a3, a4, a5, a6⟩ := right_spec ha
  obtain ⟨b1, b2, b3, b4, b5, b6⟩ := right_spec hb
  unfold okV mV
  have h1 : (((am * bm * 10 ^ (ae + be + 40).toNat).natAbs : Nat) : Int) = ((am.natAbs : Nat) : Int) * ((bm.natAbs : Nat) : Int) * 10 ^ (ae + be + 40).toNat := by
    rw [Int.natAbs_mul, Int.natAbs_mul]
    have := pow_pos' (ae + be + 40).toNat
    have e2 : (((10 : Int) ^ (ae + be + 40).toNat).natAbs : Int) = 10 ^ (ae + be + 40).toNat := by omega
    rw [Int.natCast_mul, Int.natCast_mul, e2]
  have h2 : ((am.natAbs : Nat) : Int) * ((bm.natAbs : Nat) : Int) ≤ 999999999999999 * 999999999999999 := Int.mul_le_mul (by omega) (by omega) (by omega) (by omega)
  have h3 : ((am.natAbs : Nat) : Int) * ((bm.natAbs : Nat) : Int) * 10 ^ (ae + be + 40).toNat ≤ 999999999999999 * 999999999999999 * 10 ^ 58 :=
    Int.mul_le_mul h2 (pow_mono (by omega)) (Int.le_of_lt (pow_pos' _)) (by omega)
  have : (((am * bm * 10 ^ (ae + be + 40).toNat).natAbs : Nat) : Int) < ((10 ^ 88 : Nat) : Int) := by
    rw [h1]; exact Int.lt_of_le_of_lt h3 (by decide)
  exact_mod_cast this
theorem okV_quo {am ae bm be : Int} (ha : rightB am ae = true) (hb : rightB bm be = true) : okV (qV am ae bm be) := by
  obtain ⟨a1, a2, a3, a4, a5, a6⟩ := right_spec ha
  obtain ⟨b1, b2, b3, b4, b5, b6⟩ := right_spec hb
  have h1 : 0 ≤ quoV am ae bm be := Int.ediv_nonneg (Int.mul_nonneg (by omega) (Int.le_of_lt (pow_pos' _))) (by omega)
  have h2 : quoV am ae bm be ≤ ((am.natAbs : Nat) : Int) * 10 ^ (ae - be + 40).toNat := Int.ediv_le_self _ (Int.mul_nonneg (by omega) (Int.le_of_lt (pow_pos' _)))
  have h3 : ((am.natAbs : Nat) : Int) * 10 ^ (ae - be + 40).toNat ≤ 999999999999999 * 10 ^ 58 :=
    Int.mul_le_mul (by omega) (pow_mono (by omega)) (Int.le_of_lt (pow_pos' _)) (by omega)
  have h4 : (999999999999999 * 10 ^ 58 : Int) ≤ 10 ^ 87 := by decide
  refine okV_of ?_
  generalize (10 : Int) ^ 87 = C at *
  generalize (999999999999999 * 10 ^ 58 : Int) = D at *
  unfold qV
  split <;> omega

/-- What an answer of three parts is: right and without an error, or nothing and an error. -/
theorem near_res {v : Int} (hv : okV v) : ((nearV v).2.2 = 0 ∧ rightB (nearV v).1 (nearV v).2.1 = true) ∨ nearV v = (0, 0, 10) := by
  rcases near_cases hv with ⟨h1, _⟩ | ⟨m, e, h1, h2, _⟩
  · exact .inr h1
  · rw [h1]; exact .inl ⟨rfl, h2⟩

/-! ### sums, products, differences, turned about -/
theorem addR_right {am ae bm be : Int} (ha : rightB am ae = true) (hb : rightB bm be = true) : addR am ae bm be = nearV (sV am ae + sV bm be) := if_pos ⟨ha, hb⟩
theorem subR_right {am ae bm be : Int} (ha : rightB am ae = true) (hb : rightB bm be = true) : subR am ae bm be = nearV (sV am ae - sV bm be) := if_pos ⟨ha, hb⟩
theorem mulR_right {am ae bm be : Int} (ha : rightB am ae = true) (hb : rightB bm be = true) : mulR am ae bm be = nearV (mV am ae bm be) := if_pos ⟨ha, hb⟩
theorem divR_right {am ae bm be : Int} (ha : rightB am ae = true) (hb : rightB bm be = true) (h0 : bm ≠ 0) : divR am ae bm be = nearV (qV am ae bm be) := by
  unfold divR; rw [if_pos ⟨ha, hb⟩, if_neg h0]
theorem addR_comm (am ae bm be : Int) : addR am ae bm be = addR bm be am ae := by
  unfold addR
  rw [Int.add_comm]
  by_cases h : rightB am ae = true ∧ rightB bm be = true
  · rw [if_pos h, if_pos h.symm]
  · rw [if_neg h, if_neg fun k => h k.symm]
theorem mulR_comm (am ae bm be : Int) : mulR am ae bm be = mulR bm be am ae := by
  unfold mulR mV
  rw [Int.mul_comm am bm, Int.add_comm ae be]
  by_cases h : rightB am ae = true ∧ rightB bm be = true
  · rw [if_pos h, if_pos h.symm]
  · rw [if_neg h, if_neg fun k => h k.symm]
theorem subR_turn {am ae bm be : Int} (ha : rightB am ae = true) (hb : rightB bm be = true) : subR bm be am ae = (-(subR am ae bm be).1, (subR am ae bm be).2.1, (subR am ae bm be).2.2) := by
  rw [subR_right ha hb, subR_right hb ha, ← near_neg (okV_sub ha hb)]
  congr 1; omega
theorem near_zero : nearV 0 = (0, 0, 0) := near_right (m := 0) (e := 0) (by decide +kernel)
theorem subR_self {am ae : Int} (ha : rightB am ae = true) : subR am ae am ae = (0, 0, 0) := by
  rw [subR_right ha ha, Int.sub_self, near_zero]
theorem near_one : nearV (10 ^ 40) = (1, 0, 0) := near_right (m := 1) (e := 0) (by decide +kernel)
theorem divR_self {am ae : Int} (ha : rightB am ae = true) (h0 : am ≠ 0) : divR am ae am ae = (1, 0, 0) := by
  rw [divR_right ha ha h0, ← near_one]
  congr 1
  unfold qV quoV unlikeB
  rw [show ae - ae + 40 = 40 by omega, show (40 : Int).toNat = 40 from rfl, Int.mul_ediv_cancel_left _ (by omega)]
  simp
theorem divR_none {am ae : Int} (ha : rightB am ae = true) (h0 : am = 0) : divR am ae am ae = (0, 0, 11) := by
  unfold divR; rw [if_pos ⟨ha, ha⟩, if_pos h0]
theorem subR_small (am ae bm be : Int) : -1000000000000000 < (subR am ae bm be).1 ∧ (subR am ae bm be).1 < 1000000000000000 := by
  unfold subR
  split
  · rename_i h
    rcases near_res (okV_sub h.1 h.2) with ⟨_, h2⟩ | h2
    · have := right_spec h2; omega
    · rw [h2]; simp
  · simp [bad3]

/-! ### order -/
theorem cmpR_right {am ae bm be : Int} (ha : rightB am ae = true) (hb : rightB bm be = true) : cmpR am ae bm be = if sV am ae < sV bm be then -1 else if sV bm be < sV am ae then 1 else 0 := if_pos ⟨ha, hb⟩
theorem cmpR_turn (am ae bm be : Int) : cmpR bm be am ae = -cmpR am ae bm be := by
  unfold cmpR
  by_cases h : rightB am ae = true ∧ rightB bm be = true
  · rw [if_pos h, if_pos h.symm]
    split <;> split <;> omega
  · rw [if_neg h, if_neg fun k => h k.symm]; rfl
theorem cmpR_range (am ae bm be : Int) : -1 ≤ cmpR am ae bm be ∧ cmpR am ae bm be ≤ 1 := by
  unfold cmpR
  split
  · split
    · omega
    · split <;> omega
  · omega
theorem cmpR_same {am ae bm be : Int} (ha : rightB am ae = true) (hb : rightB bm be = true) : cmpR am ae bm be = 0 ↔ (am = bm ∧ ae = be) := by
  rw [cmpR_right ha hb]
  constructor
  · intro h
    refine right_unique ha hb ?_
    split at h
    · omega
    · split at h <;> omega
  · rintro ⟨rfl, rfl⟩
    rw [if_neg (by omega), if_neg (by omega)]
theorem cmpR_le {am ae bm be : Int} (ha : rightB am ae = true) (hb : rightB bm be = true) : cmpR am ae bm be ≤ 0 ↔ sV am ae ≤ sV bm be := by
  rw [cmpR_right ha hb]
  split
  · omega
  · split <;> omega
theorem cmpR_lt {am ae bm be : Int} (ha : rightB am ae = true) (hb : rightB bm be = true) : cmpR am ae bm be < 0 ↔ sV am ae < sV bm be := by
  rw [cmpR_right ha hb]
  split
  · omega
  · split <;> omega
theorem cmpR_trans {am ae bm be cm ce : Int} (ha : rightB am ae = true) (hb : rightB bm be = true) (hc : rightB cm ce = true) (h : cmpR am ae bm be ≤ 0) (k : cmpR bm be cm ce ≤ 0) : cmpR am ae cm ce ≤ 0 := by
  rw [cmpR_le ha hb] at h
  rw [cmpR_le hb hc] at k
  rw [cmpR_le ha hc]; omega
theorem sV_unit {m e : Int} (h : rightB m e = true) : ∃ k, sV m e = k * 10 ^ 31 := by
  have := right_spec h
  exact ⟨m * 10 ^ (e + 9).toNat, by
    have := sV_split (m := m) (e := e) (f := -9) (by omega) (by omega)
    rw [show e - -9 = e + 9 by omega] at this
    exact this⟩
theorem near_pos {v m e : Int} (hv : okV v) (h : nearV v = (m, e, 0)) (h1 : 10 ^ 31 ≤ v) : 0 < m := by
  have hr : rightB 1 (-9) = true := by decide +kernel
  have h2 := round_right hr
  obtain ⟨h3, h4⟩ := round_of_near hv h
  have h5 := round_mono (v := sV 1 (-9)) (w := v) (by simpa [sV] using h1) h2 h4
  have h6 : sV 1 (-9) = 10 ^ 31 := by decide +kernel
  rcases Int.lt_or_le 0 m with g | g
  · exact g
  · have : sV m e ≤ 0 := by
      unfold sV
      have := Int.mul_le_mul_of_nonneg_right g (Int.le_of_lt (pow_pos' (e + 40).toNat))
      omega
    rw [h6] at h5
    have := pow_pos' 31
    omega
theorem subR_sign {am ae bm be : Int} (ha : rightB am ae = true) (hb : rightB bm be = true) (h : (subR am ae bm be).2.2 = 0) :
    (decide ((subR am ae bm be).1 < 0) = decide (cmpR am ae bm be < 0)) ∧ (decide ((subR am ae bm be).1 > 0) = decide (cmpR am ae bm be > 0)) := by
  rw [cmpR_right ha hb]
  obtain ⟨k, hk⟩ := sV_unit ha
  obtain ⟨l, hl⟩ := sV_unit hb
  have hp := pow_pos' 31
  have hlt : ∀ k l : Int, k * 10 ^ 31 < l * 10 ^ 31 → 10 ^ 31 ≤ l * 10 ^ 31 - k * 10 ^ 31 := by
    intro k l g
    have g2 : k < l := Int.lt_of_mul_lt_mul_right g (Int.le_of_lt hp)
    have := Int.mul_le_mul_of_nonneg_right (show k + 1 ≤ l by omega) (Int.le_of_lt hp)
    rw [Int.add_mul] at this; omega
  have hn : nearV (sV am ae - sV bm be) = ((subR am ae bm be).1, (subR am ae bm be).2.1, 0) := by
    rw [← h, subR_right ha hb]
  have hn' := near_neg (okV_sub ha hb)
  rw [hn] at hn'
  simp only at hn'
  rcases Int.lt_trichotomy (sV am ae) (sV bm be) with g | g | g
  · have := near_pos (okV_neg (okV_sub ha hb)) hn' (by rw [hk, hl] at g ⊢; have := hlt _ _ g; omega)
    rw [if_pos g]
    simp only [decide_eq_decide]
    omega
  · have hz := subR_right ha hb
    rw [g, Int.sub_self, near_zero] at hz
    rw [hz, g]; simp
  · have := near_pos (okV_sub ha hb) hn (by rw [hk, hl] at g ⊢; exact hlt _ _ g)
    rw [if_neg (by omega), if_pos g]
    simp only [decide_eq_decide]
    omega

/-! ### whole numbers -/
theorem ofR_some {n : Int} (h : (ofR n).2.2 = 0) : rightB (ofR n).1 (ofR n).2.1 = true ∧ sV (ofR n).1 (ofR n).2.1 = n * 10 ^ 40 := by
  unfold ofR at *
  split at h
  · rename_i hr
    rw [if_pos hr]
    exact ⟨hr, trimmedS_val (by omega)⟩
  · simp [bad3] at h
theorem ofR_ok {n : Int} (h : -999999999999999 ≤ n ∧ n ≤ 999999999999999) : (ofR n).2.2 = 0 := by
  unfold ofR
  rw [if_pos (trimmedS_right h.1 h.2 (by omega) (by omega))]
theorem ofR_or (n : Int) : (ofR n).2.2 = 0 ∨ ofR n = (0, 0, 10) := by
  unfold ofR
  split
  · exact .inl rfl
  · exact .inr rfl
/-- The nearest decimal of a whole number of fifteen digits. -/
theorem near_whole {n : Int} (h : -999999999999999 ≤ n ∧ n ≤ 999999999999999) : nearV (n * 10 ^ 40) = ofR n := by
  have h1 := ofR_ok h
  obtain ⟨h2, h3⟩ := ofR_some h1
  rw [← h3, near_right h2]
  exact Prod.ext rfl (Prod.ext rfl h1.symm)

end Go.Proofs.Ytabgphldbgdbpaa
