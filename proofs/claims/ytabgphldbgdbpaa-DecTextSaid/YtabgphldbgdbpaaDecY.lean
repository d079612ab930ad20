/- Floors, roundings, quotients of whole numbers. -/
import Derived.Test.YtabgphldbgdbpaaDecX
set_option linter.unusedVariables false
set_option linter.unusedSimpArgs false
set_option maxRecDepth 20000
namespace Go.Proofs.Ytabgphldbgdbpaa
open Go Sx Dc
attribute [local semireducible] aV sV nearV mV qV

theorem aV_abs (m e : Int) : aV m e = (((sV m e).natAbs : Nat) : Int) := (sV_abs m e).symm
/-- A right decimal that is so many tens is written so. -/
theorem right_mult {m e c : Int} {p : Nat} (h : rightB m e = true) (hp : p ≤ 49) (hv : sV m e = c * 10 ^ p) : m = 0 ∨ (p : Int) - 40 ≤ e := by
  obtain ⟨a1, a2, a3, a4, a5, a6⟩ := right_spec h
  rcases Int.lt_or_le e ((p : Int) - 40) with g | g
  · left
    have e1 : c * 10 ^ p = c * 10 ^ (p - (e + 40).toNat) * 10 ^ (e + 40).toNat := by
      rw [Int.mul_assoc, ← Int.pow_add]; congr 2; omega
    rw [e1] at hv
    have hm : m = c * 10 ^ (p - (e + 40).toNat) := Int.eq_of_mul_eq_mul_right (by have := pow_pos' (e + 40).toNat; omega) hv
    obtain ⟨k, hk⟩ : ∃ k, p - (e + 40).toNat = k + 1 := ⟨p - (e + 40).toNat - 1, by omega⟩
    rw [hk, Int.pow_succ, ← Int.mul_assoc] at hm
    have ht : m.tmod 10 = 0 := by rw [hm]; exact Int.mul_tmod_left _ _
    by_cases hz : m = 0
    · exact hz
    · have := a6 hz; omega
  · exact .inr g

/-! ### floors -/
theorem floor_err {m e : Int} (h : rightB m e = true) (hc : (floorR m e).2 ≠ 0) : floorR m e = (0, 10) ∧ 0 < e := by
  obtain ⟨a1, a2, a3, a4, a5, a6⟩ := right_spec h
  unfold floorR at *
  split at hc
  · exact absurd rfl hc
  · rename_i hn
    rw [if_neg hn]
    refine ⟨rfl, ?_⟩
    rcases Int.lt_or_le 0 e with g | g
    · exact g
    · exfalso
      apply hn
      refine ⟨h, ?_⟩
      have h1 : aV m e ≤ 999999999999999 * 10 ^ 40 := by
        unfold aV
        exact Int.mul_le_mul (by omega) (pow_mono (by omega)) (Int.le_of_lt (pow_pos' _)) (by omega)
      have := Int.ediv_le_ediv (pow_pos' 40) h1
      rw [Int.mul_ediv_cancel _ (by have := pow_pos' 40; omega)] at this
      exact this
theorem floor_ok {m e : Int} (hc : (floorR m e).2 = 0) : rightB m e = true ∧ aV m e / 10 ^ 40 ≤ 999999999999999 ∧ (floorR m e).1 = sV m e / 10 ^ 40 := by
  unfold floorR at *
  split at hc
  · rename_i hn
    rw [if_pos hn]
    exact ⟨hn.1, hn.2, rfl⟩
  · simp at hc
theorem floor_range {m e : Int} (hc : (floorR m e).2 = 0) : -1000000000000000 ≤ (floorR m e).1 ∧ (floorR m e).1 ≤ 999999999999999 := by
  obtain ⟨h1, h2, h3⟩ := floor_ok hc
  rw [h3]
  rw [aV_abs] at h2
  have hp := pow_pos' 40
  obtain ⟨d1, d2, d3⟩ := divmod (sV m e) (10 ^ 40) hp
  obtain ⟨c1, c2, c3⟩ := divmod (((sV m e).natAbs : Nat) : Int) (10 ^ 40) hp
  generalize (((sV m e).natAbs : Nat) : Int) / 10 ^ 40 = a at *
  generalize (((sV m e).natAbs : Nat) : Int) % 10 ^ 40 = b at *
  generalize sV m e / 10 ^ 40 = c at *
  generalize sV m e % 10 ^ 40 = d at *
  omega
theorem floor_small {m e : Int} (hc : (floorR m e).2 = 0) : -999999999999999 ≤ (floorR m e).1 ∧ (floorR m e).1 ≤ 999999999999999 := by
  have hr := floor_range hc
  obtain ⟨h1, h2, h3⟩ := floor_ok hc
  obtain ⟨a1, a2, a3, a4, a5, a6⟩ := right_spec h1
  refine ⟨?_, hr.2⟩
  rw [aV_abs] at h2
  rw [h3] at hr ⊢
  have hp := pow_pos' 40
  rcases Int.lt_or_le e 0 with g | g
  · have h4 : aV m e ≤ 999999999999999 * 10 ^ 39 := by
      unfold aV
      exact Int.mul_le_mul (by omega) (pow_mono (by omega)) (Int.le_of_lt (pow_pos' _)) (by omega)
    rw [aV_abs] at h4
    obtain ⟨d1, d2, d3⟩ := divmod (sV m e) (10 ^ 40) hp
    generalize sV m e / 10 ^ 40 = c at *
    generalize sV m e % 10 ^ 40 = d at *
    omega
  · have h5 : sV m e = m * 10 ^ e.toNat * 10 ^ 40 := by
      unfold sV; rw [Int.mul_assoc, ← Int.pow_add]; congr 2; omega
    rw [h5] at h2 ⊢
    have h6 : ((((m * 10 ^ e.toNat) * 10 ^ 40).natAbs : Nat) : Int) = (((m * 10 ^ e.toNat).natAbs : Nat) : Int) * 10 ^ 40 := by
      rw [Int.natAbs_mul]; rfl
    rw [h6, Int.mul_ediv_cancel _ (by omega)] at h2
    rw [Int.mul_ediv_cancel _ (by omega)]
    omega
/-- The whole number beneath is not above, and one more is. -/
theorem floor_law {m e : Int} (hc : (floorR m e).2 = 0) : (ofR (floorR m e).1).2.2 = 0 ∧ cmpR (ofR (floorR m e).1).1 (ofR (floorR m e).1).2.1 m e ≤ 0 ∧
    ((ofR ((floorR m e).1 + 1)).2.2 = 0 → cmpR m e (ofR ((floorR m e).1 + 1)).1 (ofR ((floorR m e).1 + 1)).2.1 < 0) := by
  have hs := floor_small hc
  obtain ⟨h1, h2, h3⟩ := floor_ok hc
  have hp := pow_pos' 40
  obtain ⟨d1, d2, d3⟩ := divmod (sV m e) (10 ^ 40) hp
  rw [← h3] at d1
  have ok := ofR_ok hs
  obtain ⟨o1, o2⟩ := ofR_some ok
  refine ⟨ok, ?_, fun k => ?_⟩
  · rw [cmpR_le o1 h1, o2]; omega
  · obtain ⟨k1, k2⟩ := ofR_some k
    rw [cmpR_lt h1 k1, k2, Int.add_mul]; omega

/-! ### roundings -/
theorem hup_exact {c P : Int} (hP : 0 < P) : hup (c * P) P = c := by
  unfold hup
  rw [Int.mul_emod_left, Int.mul_ediv_cancel _ (by omega), if_neg (by omega)]
theorem hup_spec {a P : Int} (hP : 0 < P) : 2 * (hup a P * P) - P ≤ 2 * a ∧ 2 * a ≤ 2 * (hup a P * P) + P := by
  obtain ⟨h1, h2, h3⟩ := divmod a P hP
  unfold hup
  split
  · rw [Int.add_mul]
    generalize a / P * P = z at *
    omega
  · generalize a / P * P = z at *
    omega
theorem hup_range (a P : Int) : a / P ≤ hup a P ∧ hup a P ≤ a / P + 1 := by unfold hup; split <;> omega
theorem sgn_aV (m e : Int) : sgnI m * aV m e = sV m e := by
  unfold sgnI
  split
  · rename_i h; rw [sV_neg h]; omega
  · rename_i h; rw [sV_pos h]; omega
theorem roundR_right {m e k : Int} (h : rightB m e = true) (hk : -9 ≤ k ∧ k ≤ 9) : roundR m e k = nearV (sgnI m * (hup (aV m e) (10 ^ (40 - k).toNat) * 10 ^ (40 - k).toNat)) := by
  unfold roundR; rw [if_pos h, if_neg (by omega)]
/-- What is so many units is rounded as it is. -/
theorem round_mult {m e k c : Int} (h : rightB m e = true) (hk : -9 ≤ k ∧ k ≤ 9) (hc : aV m e = c * 10 ^ (40 - k).toNat) : roundR m e k = (m, e, 0) := by
  rw [roundR_right h hk, hc, hup_exact (pow_pos' _), ← hc, sgn_aV, near_right h]
theorem aV_units {m e k : Int} (h : rightB m e = true) (hk : -9 ≤ k ∧ k ≤ 9) (hc : -k ≤ e) : ∃ c, aV m e = c * 10 ^ (40 - k).toNat :=
  ⟨((m.natAbs : Nat) : Int) * 10 ^ (e + k).toNat, by
    unfold aV
    rw [Int.mul_assoc, ← Int.pow_add]; congr 2; have := right_spec h; omega⟩
theorem round_nine {m e : Int} (h : rightB m e = true) : roundR m e 9 = (m, e, 0) := by
  obtain ⟨c, hc⟩ := aV_units h (k := 9) (by omega) (by have := right_spec h; omega)
  exact round_mult h (by omega) hc
theorem sgn_abs (m : Int) : (sgnI m).natAbs = 1 := by unfold sgnI; split <;> rfl
/-- Where a decimal is rounded to: so many units, no further off than a half of one. -/
theorem round_to {m e k : Int} (h : rightB m e = true) (hk : -9 ≤ k ∧ k ≤ 9) : ∃ S c : Int, roundR m e k = nearV S ∧ roundV S = some S ∧ okV S ∧ S = c * 10 ^ (40 - k).toNat ∧ -(10 ^ (40 - k).toNat) ≤ 2 * (S - sV m e) ∧ 2 * (S - sV m e) ≤ 10 ^ (40 - k).toNat ∧ (k = 9 → S = sV m e) := by
  have hr := right_spec h
  by_cases hc : -k ≤ e
  · obtain ⟨c, e1⟩ := aV_units h hk hc
    refine ⟨sV m e, sgnI m * c, ?_, round_right h, okV_sV h, ?_, ?_, ?_, fun _ => rfl⟩
    · rw [round_mult h hk e1, near_right h]
    · rw [Int.mul_assoc, ← e1, sgn_aV]
    · have := pow_pos' (40 - k).toNat; omega
    · have := pow_pos' (40 - k).toNat; omega
  · have hP := pow_pos' (40 - k).toNat
    have h1 := hup_spec (a := aV m e) hP
    have h2 := hup_range (aV m e) (10 ^ (40 - k).toNat)
    have h3 : aV m e ≤ 99999999999999 * 10 ^ (40 - k).toNat + 9 * 10 ^ (39 - k).toNat := by
      have e2 : aV m e ≤ 999999999999999 * 10 ^ (39 - k).toNat := by
        unfold aV
        exact Int.mul_le_mul (by omega) (pow_mono (by omega)) (Int.le_of_lt (pow_pos' _)) (by omega)
      have e3 : (10 : Int) ^ (40 - k).toNat = 10 ^ (39 - k).toNat * 10 := by rw [← Int.pow_succ]; congr 1; omega
      rw [e3]; omega
    have h0 : 0 ≤ aV m e := by rw [aV_abs]; omega
    have h4 : 0 ≤ hup (aV m e) (10 ^ (40 - k).toNat) ∧ hup (aV m e) (10 ^ (40 - k).toNat) ≤ 100000000000000 := by
      have g0 := Int.ediv_nonneg h0 (Int.le_of_lt hP)
      have g1 : aV m e / 10 ^ (40 - k).toNat < 100000000000000 := by
        apply Int.ediv_lt_of_lt_mul hP
        have e3 : (10 : Int) ^ (40 - k).toNat = 10 ^ (39 - k).toNat * 10 := by rw [← Int.pow_succ]; congr 1; omega
        have := pow_pos' (39 - k).toNat
        rw [e3] at h3 ⊢; omega
      omega
    refine ⟨sgnI m * (hup (aV m e) (10 ^ (40 - k).toNat) * 10 ^ (40 - k).toNat), sgnI m * hup (aV m e) (10 ^ (40 - k).toNat), roundR_right h hk, ?_, ?_, (Int.mul_assoc _ _ _).symm, ?_, ?_, fun e9 => absurd e9 (by omega)⟩
    · rw [← Int.mul_assoc, show (40 - k).toNat = (-k + 40).toNat by omega]
      exact round_exact (by rw [Int.natAbs_mul, sgn_abs]; rw [show (-k + 40).toNat = (40 - k).toNat by omega]; omega) (by omega)
    · rw [← Int.mul_assoc]
      have e4 : (((sgnI m * hup (aV m e) (10 ^ (40 - k).toNat) * 10 ^ (40 - k).toNat).natAbs : Nat) : Int) = hup (aV m e) (10 ^ (40 - k).toNat) * 10 ^ (40 - k).toNat := by
        rw [Int.natAbs_mul, Int.natAbs_mul, sgn_abs, Nat.one_mul, Int.natCast_mul]
        rw [show ((hup (aV m e) (10 ^ (40 - k).toNat)).natAbs : Int) = hup (aV m e) (10 ^ (40 - k).toNat) by omega, show (((10 : Int) ^ (40 - k).toNat).natAbs : Int) = 10 ^ (40 - k).toNat by omega]
      have e5 : hup (aV m e) (10 ^ (40 - k).toNat) * 10 ^ (40 - k).toNat ≤ 100000000000000 * 10 ^ 49 := Int.mul_le_mul h4.2 (pow_mono (by omega)) (Int.le_of_lt hP) (by omega)
      unfold okV
      have : (((sgnI m * hup (aV m e) (10 ^ (40 - k).toNat) * 10 ^ (40 - k).toNat).natAbs : Nat) : Int) < ((10 ^ 88 : Nat) : Int) := by
        rw [e4]; exact Int.lt_of_le_of_lt e5 (by decide)
      exact_mod_cast this
    · rw [← sgn_aV m e, ← Int.mul_sub]
      generalize hup (aV m e) (10 ^ (40 - k).toNat) * 10 ^ (40 - k).toNat = z at *
      unfold sgnI
      split <;> omega
    · rw [← sgn_aV m e, ← Int.mul_sub]
      generalize hup (aV m e) (10 ^ (40 - k).toNat) * 10 ^ (40 - k).toNat = z at *
      unfold sgnI
      split <;> omega
theorem absI_right {m e : Int} (h : rightB m e = true) : rightB ((m.natAbs : Nat) : Int) e = true ∧ sV ((m.natAbs : Nat) : Int) e = (((sV m e).natAbs : Nat) : Int) := by
  refine ⟨?_, (sV_abs m e).symm⟩
  by_cases c : m < 0
  · rw [show ((m.natAbs : Nat) : Int) = -m by omega]; exact right_neg h
  · rw [show ((m.natAbs : Nat) : Int) = m by omega]; exact h
theorem round_abs_le {v y B : Int} (hv : roundV v = some y) (hB : roundV B = some B) (h1 : -B ≤ v) (h2 : v ≤ B) : -B ≤ y ∧ y ≤ B := by
  refine ⟨?_, round_mono h2 hv hB⟩
  have h3 := round_neg B
  rw [hB] at h3
  exact round_mono h1 h3 hv
theorem one_right {k : Int} (hk : -9 ≤ k ∧ k ≤ 9) : rightB 1 (-k) = true := decide_eq_true ⟨by omega, by omega, by omega, by omega, by omega, fun _ => .inr (by decide)⟩
theorem five_right {k : Int} (hk : -9 ≤ k ∧ k ≤ 8) : rightB 5 (-k - 1) = true := decide_eq_true ⟨by omega, by omega, by omega, by omega, by omega, fun _ => .inr (by decide)⟩

/-- What the rounding of a decimal is. -/
theorem round_law {m e k : Int} (h : rightB m e = true) (hk : -9 ≤ k ∧ k ≤ 9) : ∃ r f : Int, roundR m e k = (r, f, 0) ∧ rightB r f = true ∧ roundR r f k = (r, f, 0) ∧ (r = 0 ∨ -k ≤ f) ∧
    ((subR r f m e).2.2 = 0 → (addR (((subR r f m e).1.natAbs : Nat) : Int) (subR r f m e).2.1 (((subR r f m e).1.natAbs : Nat) : Int) (subR r f m e).2.1).2.2 = 0 →
      cmpR (addR (((subR r f m e).1.natAbs : Nat) : Int) (subR r f m e).2.1 (((subR r f m e).1.natAbs : Nat) : Int) (subR r f m e).2.1).1 (addR (((subR r f m e).1.natAbs : Nat) : Int) (subR r f m e).2.1 (((subR r f m e).1.natAbs : Nat) : Int) (subR r f m e).2.1).2.1 1 (-k) ≤ 0) := by
  obtain ⟨S, c, h1, h2, h3, h4, h5, h6, h7⟩ := round_to h hk
  obtain ⟨r, f, h8, h9, h10⟩ := near_of_round h3 h2
  refine ⟨r, f, by rw [h1, h8], h9, ?_, ?_, fun hs ha => ?_⟩
  · refine round_mult (c := ((c.natAbs : Nat) : Int)) h9 hk ?_
    rw [aV_abs, h10, h4, Int.natAbs_mul, Int.natCast_mul]
    have := pow_pos' (40 - k).toNat
    rw [show (((10 : Int) ^ (40 - k).toNat).natAbs : Int) = 10 ^ (40 - k).toNat by omega]
  · have := right_mult (p := (40 - k).toNat) h9 (by omega) (h10.trans h4)
    omega
  · have hd : nearV (sV r f - sV m e) = ((subR r f m e).1, (subR r f m e).2.1, 0) := by rw [← hs, subR_right h9 h]
    obtain ⟨d1, d2⟩ := round_of_near (okV_sub h9 h) hd
    rw [h10] at d2
    generalize (subR r f m e).1 = dm at *
    generalize (subR r f m e).2.1 = de at *
    have hb : -(10 ^ (40 - k).toNat) ≤ 2 * sV dm de ∧ 2 * sV dm de ≤ 10 ^ (40 - k).toNat := by
      by_cases k9 : k = 9
      · rw [h7 k9, Int.sub_self] at d2
        have hz : roundV 0 = some 0 := by decide +kernel
        rw [hz] at d2
        have := Option.some.inj d2
        have := pow_pos' (40 - k).toNat
        omega
      · have h5r := round_right (five_right (k := k) (by omega))
        have e5 : 2 * sV 5 (-k - 1) = 10 ^ (40 - k).toNat := by
          unfold sV
          rw [show (40 - k).toNat = (-k - 1 + 40).toNat + 1 by omega, Int.pow_succ]; omega
        have := round_abs_le d2 h5r (by omega) (by omega)
        omega
    obtain ⟨b1, b2⟩ := absI_right d1
    have ht : nearV (sV ((dm.natAbs : Nat) : Int) de + sV ((dm.natAbs : Nat) : Int) de) = ((addR ((dm.natAbs : Nat) : Int) de ((dm.natAbs : Nat) : Int) de).1, (addR ((dm.natAbs : Nat) : Int) de ((dm.natAbs : Nat) : Int) de).2.1, 0) := by rw [← ha, addR_right b1 b1]
    obtain ⟨t1, t2⟩ := round_of_near (okV_add b1 b1) ht
    have h1r := one_right hk
    rw [cmpR_le t1 h1r]
    have e1 : sV 1 (-k) = 10 ^ (40 - k).toNat := by
      unfold sV; rw [Int.one_mul]; congr 2; omega
    refine round_mono (v := sV ((dm.natAbs : Nat) : Int) de + sV ((dm.natAbs : Nat) : Int) de) (w := sV 1 (-k)) ?_ t2 (round_right h1r)
    rw [e1, b2]; omega

end Go.Proofs.Ytabgphldbgdbpaa
