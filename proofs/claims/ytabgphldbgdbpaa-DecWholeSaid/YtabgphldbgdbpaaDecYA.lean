/- Quotients of whole numbers. -/
import Derived.Test.YtabgphldbgdbpaaDecY
set_option linter.unusedVariables false
set_option linter.unusedSimpArgs false
set_option maxRecDepth 20000
namespace Go.Proofs.Ytabgphldbgdbpaa
open Go Sx Dc
attribute [local semireducible] aV sV nearV mV qV

theorem sV_sign (m e : Int) : (sV m e < 0 ↔ m < 0) ∧ (sV m e = 0 ↔ m = 0) := by
  unfold sV
  have hp := pow_pos' (e + 40).toNat
  rcases Int.lt_trichotomy m 0 with g | g | g
  · have := Int.mul_neg_of_neg_of_pos g hp; omega
  · subst g; simp
  · have := Int.mul_pos g hp; omega
theorem whole_sign {m e n : Int} (h : sV m e = n * 10 ^ 40) : (m < 0 ↔ n < 0) ∧ (m = 0 ↔ n = 0) := by
  have h1 := sV_sign m e
  have hp := pow_pos' 40
  rw [h] at h1
  rcases Int.lt_trichotomy n 0 with g | g | g
  · have := Int.mul_neg_of_neg_of_pos g hp; omega
  · subst g; omega
  · have := Int.mul_pos g hp; omega
theorem abs_mul_pow (n : Int) (p : Nat) : (((n * 10 ^ p).natAbs : Nat) : Int) = ((n.natAbs : Nat) : Int) * 10 ^ p := by
  rw [Int.natAbs_mul, Int.natCast_mul]
  have := pow_pos' p
  rw [show (((10 : Int) ^ p).natAbs : Int) = 10 ^ p by omega]

theorem quo_val {am ae bm be : Int} (ha : rightB am ae = true) (hb : rightB bm be = true) : quoV am ae bm be = aV am ae * 10 ^ 40 / aV bm be := by
  obtain ⟨a1, a2, a3, a4, a5, a6⟩ := right_spec ha
  obtain ⟨b1, b2, b3, b4, b5, b6⟩ := right_spec hb
  unfold quoV aV
  rw [← Int.mul_ediv_mul_of_pos_left _ ((bm.natAbs : Nat) : Int) (pow_pos' (be + 40).toNat)]
  congr 1
  rw [Int.mul_assoc, Int.mul_assoc, ← Int.pow_add, ← Int.pow_add]
  congr 2; omega
/-- What a quotient of two whole numbers is parted of. -/
theorem quo_whole {am ae bm be n m : Int} (ha : rightB am ae = true) (hb : rightB bm be = true) (va : sV am ae = n * 10 ^ 40) (vb : sV bm be = m * 10 ^ 40) :
    qV am ae bm be = if (n < 0 ↔ m < 0) then ((n.natAbs : Nat) : Int) * 10 ^ 40 / ((m.natAbs : Nat) : Int) else -(((n.natAbs : Nat) : Int) * 10 ^ 40 / ((m.natAbs : Nat) : Int)) := by
  have e1 : quoV am ae bm be = ((n.natAbs : Nat) : Int) * 10 ^ 40 / ((m.natAbs : Nat) : Int) := by
    rw [quo_val ha hb, aV_abs, aV_abs, va, vb, abs_mul_pow, abs_mul_pow, Int.mul_ediv_mul_of_pos_left _ _ (pow_pos' 40)]
  have s1 := (whole_sign va).1
  have s2 := (whole_sign vb).1
  unfold qV unlikeB
  rw [e1]
  by_cases c1 : am < 0 <;> by_cases c2 : bm < 0 <;> simp [c1, c2, ← s1, ← s2]
theorem mul_val {am ae bm be : Int} (ha : rightB am ae = true) (hb : rightB bm be = true) : mV am ae bm be * 10 ^ 40 = sV am ae * sV bm be := by
  obtain ⟨a1, a2, a3, a4, a5, a6⟩ := right_spec ha
  obtain ⟨b1, b2, b3, b4, b5, b6⟩ := right_spec hb
  unfold mV sV
  have e : (10 : Int) ^ (ae + 40).toNat * 10 ^ (be + 40).toNat = 10 ^ (ae + be + 40).toNat * 10 ^ 40 := by
    rw [← Int.pow_add, ← Int.pow_add]; congr 1; omega
  rw [Int.mul_assoc (am * bm), ← e]
  simp only [Int.mul_assoc, Int.mul_left_comm]
theorem mul_to {am ae bm be k l : Int} {p : Nat} (ha : rightB am ae = true) (hb : rightB bm be = true) (va : sV am ae = k * 10 ^ p) (vb : sV bm be = l * 10 ^ 40) : mV am ae bm be = k * l * 10 ^ p := by
  have h := mul_val ha hb
  rw [va, vb] at h
  have e : k * 10 ^ p * (l * 10 ^ 40) = k * l * 10 ^ p * 10 ^ 40 := by
    rw [← Int.mul_assoc]; congr 1
    rw [Int.mul_assoc, Int.mul_comm (10 ^ p) l, ← Int.mul_assoc]
  rw [e] at h
  exact Int.eq_of_mul_eq_mul_right (by have := pow_pos' 40; omega) h
theorem near_units {k e : Int} {p : Nat} (he : -9 ≤ e ∧ e ≤ 9) (hp : (e + 40).toNat = p) (hk : k.natAbs ≤ 999999999999999) (hv : okV (k * 10 ^ p)) : ∃ m f : Int, nearV (k * 10 ^ p) = (m, f, 0) ∧ rightB m f = true ∧ sV m f = k * 10 ^ p := by
  subst hp
  exact near_of_round hv (round_exact hk he)

theorem floor_whole {m e c : Int} (h : rightB m e = true) (hv : sV m e = c * 10 ^ 40) (hc : -999999999999999 ≤ c ∧ c ≤ 999999999999999) : floorR m e = (c, 0) := by
  unfold floorR
  have hp := pow_pos' 40
  rw [if_pos ⟨h, by rw [aV_abs, hv, abs_mul_pow, Int.mul_ediv_cancel _ (by omega)]; omega⟩, hv, Int.mul_ediv_cancel _ (by omega)]

/-- A quotient of small whole numbers: what it comes to, multiplied again, is as near as may be. -/
theorem near_law {xm xe ym ye n m : Int} (hx : rightB xm xe = true) (hy : rightB ym ye = true) (vx : sV xm xe = n * 10 ^ 40) (vy : sV ym ye = m * 10 ^ 40) (hn : -99999 ≤ n ∧ n ≤ 99999) (hm : 1 ≤ m ∧ m ≤ 99999) :
    ∃ qm qe pm pe dm de tm te bm be : Int, divR xm xe ym ye = (qm, qe, 0) ∧ mulR qm qe ym ye = (pm, pe, 0) ∧ subR pm pe xm xe = (dm, de, 0) ∧
      addR ((dm.natAbs : Nat) : Int) de ((dm.natAbs : Nat) : Int) de = (tm, te, 0) ∧ mulR ym ye 1 (-9) = (bm, be, 0) ∧ cmpR tm te bm be ≤ 0 ∧ (n.tmod m = 0 → 0 ≤ qe ∧ dm = 0) := by
  have sy := whole_sign vy
  have ey := quo_whole hx hy vx vy
  have hmm : ((m.natAbs : Nat) : Int) = m := by omega
  rw [hmm] at ey
  -- the number that is rounded
  obtain ⟨a, ha⟩ : ∃ a : Int, ((n.natAbs : Nat) : Int) = a := ⟨_, rfl⟩
  rw [ha] at ey
  have ha1 : 0 ≤ a ∧ a ≤ 99999 := by omega
  obtain ⟨W, hW⟩ : ∃ W : Int, a * 10 ^ 40 / m = W := ⟨_, rfl⟩
  rw [hW] at ey
  have hp40 := pow_pos' 40
  have hp31 := pow_pos' 31
  have hW0 : 0 ≤ W := by rw [← hW]; exact Int.ediv_nonneg (Int.mul_nonneg ha1.1 (by omega)) (by omega)
  obtain ⟨w1, w2, w3⟩ := divmod (a * 10 ^ 40) m (by omega)
  rw [hW] at w1
  have hWle : W ≤ a * 10 ^ 40 := by rw [← hW]; exact Int.ediv_le_self _ (Int.mul_nonneg ha1.1 (by omega))
  have e4031 : (10 : Int) ^ 40 = 1000000000 * 10 ^ 31 := by decide
  obtain ⟨N, hN⟩ : ∃ N : Int, hev W 31 = N := ⟨_, rfl⟩
  have hN0 : 0 ≤ N := by rw [← hN]; exact hev_nonneg hW0 _
  have hNle : N ≤ 99999000000000 := by
    have h1 := hev_mono hWle 31
    rw [e4031, ← Int.mul_assoc, hev_exact, hN] at h1
    omega
  have hsp := hev_spec W 31
  rw [hN] at hsp
  -- its sign
  obtain ⟨s, hs, es, sn⟩ : ∃ s : Int, (s = 1 ∨ s = -1) ∧ (roundV (qV xm xe ym ye) = some (s * N * 10 ^ 31)) ∧ n = s * a := by
    have hg : ∀ v : Int, ((v.natAbs : Nat) : Int) = W → roundV v = some (if v < 0 then -(N * 10 ^ 31) else N * 10 ^ 31) := by
      intro v hv
      unfold roundV
      rw [hv, goV_at (X := W) (i := 0) (by rw [show 31 + 0 = 31 from rfl, hN]; omega) (fun k hk => absurd hk (by omega)) 19 0 (by omega) (by omega)]
      simp only [Option.map_some, show 31 + 0 = 31 from rfl, hN]
      rfl
    rw [ey]
    by_cases c : n < 0
    · rw [if_neg (by omega)]
      refine ⟨-1, .inr rfl, ?_, by omega⟩
      rw [hg (-W) (by omega)]
      by_cases c2 : -W < 0
      · rw [if_pos c2]; congr 1; rw [Int.neg_mul, Int.one_mul, Int.neg_mul]
      · rw [if_neg c2]
        have hz : W = 0 := by omega
        have : N = 0 := by rw [← hN, hz]; decide +kernel
        rw [this]; rfl
    · rw [if_pos (by omega)]
      refine ⟨1, .inl rfl, ?_, by omega⟩
      rw [hg W (by omega), if_neg (by omega), Int.one_mul]
  have hym : ym ≠ 0 := by omega
  obtain ⟨qm, qe, q1, q2, q3⟩ := near_of_round (okV_quo hx hy) es
  have hdiv : divR xm xe ym ye = (qm, qe, 0) := by rw [divR_right hx hy hym, q1]
  -- multiplied again
  obtain ⟨A, hA⟩ : ∃ A : Int, N * m = A := ⟨_, rfl⟩
  have hWm : W * m ≤ a * 10 ^ 40 ∧ a * 10 ^ 40 < W * m + m := by omega
  have k1 : (2 * (N * 10 ^ 31) - 10 ^ 31) * m ≤ 2 * W * m := Int.mul_le_mul_of_nonneg_right hsp.1 (by omega)
  have k2 : 2 * W * m ≤ (2 * (N * 10 ^ 31) + 10 ^ 31) * m := Int.mul_le_mul_of_nonneg_right hsp.2 (by omega)
  have e1 : N * 10 ^ 31 * m = A * 10 ^ 31 := by rw [← hA, Int.mul_right_comm]
  rw [Int.sub_mul, Int.mul_assoc 2, e1, Int.mul_assoc 2 W] at k1
  rw [Int.add_mul, Int.mul_assoc 2 (N * 10 ^ 31), e1, Int.mul_assoc 2 W] at k2
  rw [e4031, ← Int.mul_assoc] at hWm
  have hE : 2 * (A - a * 1000000000) ≤ m ∧ -m ≤ 2 * (A - a * 1000000000) := by
    have big : 200000 < (10 : Int) ^ 31 := by decide
    have j1 : 2 * (A - a * 1000000000) * 10 ^ 31 ≤ m * 10 ^ 31 := by
      rw [Int.mul_assoc, Int.sub_mul]; rw [Int.mul_comm m]; omega
    have j2 : (-m - 1) * 10 ^ 31 < 2 * (A - a * 1000000000) * 10 ^ 31 := by
      rw [Int.mul_assoc, Int.sub_mul, Int.sub_mul, Int.neg_mul]; rw [Int.mul_comm m]; omega
    have i1 := Int.le_of_mul_le_mul_right j1 hp31
    have i2 := Int.lt_of_mul_lt_mul_right j2 (by omega)
    omega
  have mq : mV qm qe ym ye = s * A * 10 ^ 31 := by
    rw [mul_to q2 hy q3 vy]
    congr 1; rw [← hA, Int.mul_assoc]
  have hA0 : 0 ≤ A := by rw [← hA]; exact Int.mul_nonneg hN0 (by omega)
  have habs : ∀ z : Int, (s * z).natAbs = z.natAbs := fun z => by rcases hs with rfl | rfl <;> omega
  obtain ⟨pm, pe, p1, p2, p3⟩ := near_units (k := s * A) (e := -9) (p := 31) (by omega) rfl (by rw [habs]; omega) (by rw [← mq]; exact okV_mul q2 hy)
  have hmul : mulR qm qe ym ye = (pm, pe, 0) := by rw [mulR_right q2 hy, mq, p1]
  -- the difference
  have ed : sV pm pe - sV xm xe = s * (A - a * 1000000000) * 10 ^ 31 := by
    rw [p3, vx, sn, e4031, Int.mul_sub, Int.sub_mul]
    congr 1
    rw [← Int.mul_assoc, Int.mul_assoc s a]
  obtain ⟨dm, de, d1, d2, d3⟩ := near_units (k := s * (A - a * 1000000000)) (e := -9) (p := 31) (by omega) rfl (by rw [habs]; omega) (by rw [← ed]; exact okV_sub p2 hx)
  have hsub : subR pm pe xm xe = (dm, de, 0) := by rw [subR_right p2 hx, ed, d1]
  obtain ⟨b1, b2⟩ := absI_right d2
  have b3 : sV ((dm.natAbs : Nat) : Int) de = (((A - a * 1000000000).natAbs : Nat) : Int) * 10 ^ 31 := by rw [b2, d3, abs_mul_pow, habs]
  have et : sV ((dm.natAbs : Nat) : Int) de + sV ((dm.natAbs : Nat) : Int) de = 2 * (((A - a * 1000000000).natAbs : Nat) : Int) * 10 ^ 31 := by rw [b3, Int.mul_assoc]; omega
  obtain ⟨tm, te, t1, t2, t3⟩ := near_units (k := 2 * (((A - a * 1000000000).natAbs : Nat) : Int)) (e := -9) (p := 31) (by omega) rfl (by omega) (by rw [← et]; exact okV_add b1 b1)
  have hadd : addR ((dm.natAbs : Nat) : Int) de ((dm.natAbs : Nat) : Int) de = (tm, te, 0) := by rw [addR_right b1 b1, et, t1]
  -- the bound
  have o1 : rightB 1 (-9) = true := by decide +kernel
  have o2 : sV 1 (-9) = 1 * 10 ^ 31 := by decide +kernel
  have mb : mV ym ye 1 (-9) = m * 10 ^ 31 := by
    have h := mul_val hy o1
    rw [vy, o2, Int.one_mul, Int.mul_right_comm] at h
    exact Int.eq_of_mul_eq_mul_right (by omega) h
  obtain ⟨bm, be, c1, c2, c3⟩ := near_units (k := m) (e := -9) (p := 31) (by omega) rfl (by omega) (by rw [← mb]; exact okV_mul hy o1)
  refine ⟨qm, qe, pm, pe, dm, de, tm, te, bm, be, hdiv, hmul, hsub, hadd, by rw [mulR_right hy o1, mb, c1], ?_, fun hz => ?_⟩
  · rw [cmpR_le t2 c2, t3, c3]
    exact Int.mul_le_mul_of_nonneg_right (by omega) (by omega)
  · -- no rest
    have hdv : m ∣ a := by
      have : m ∣ n := Int.dvd_of_tmod_eq_zero hz
      rw [sn] at this
      rcases hs with rfl | rfl
      · simpa using this
      · rw [Int.neg_mul, Int.one_mul] at this; exact Int.dvd_neg.1 this
    obtain ⟨c, hc⟩ := hdv
    have hWc : W = c * 10 ^ 40 := by
      rw [← hW, hc, Int.mul_assoc, Int.mul_ediv_cancel_left _ (by omega)]
    have hNc : N = c * 1000000000 := by
      rw [← hN, hWc, e4031, ← Int.mul_assoc, hev_exact]
    have hAz : A - a * 1000000000 = 0 := by
      rw [← hA, hNc, hc, Int.mul_comm m c, Int.mul_right_comm]; omega
    have hq := right_mult (p := 40) (c := s * c) q2 (by omega) (by rw [q3, hNc, e4031]; simp only [Int.mul_assoc])
    have hd0 := (sV_sign dm de).2.1 (by rw [d3, hAz, Int.mul_zero, Int.zero_mul])
    have hqr := right_spec q2
    omega

theorem tdiv_abs {n m : Int} (hm : m ≠ 0) : n.tdiv m = if (n < 0 ↔ m < 0) then ((n.natAbs : Nat) : Int) / ((m.natAbs : Nat) : Int) else -(((n.natAbs : Nat) : Int) / ((m.natAbs : Nat) : Int)) := by
  by_cases c1 : n < 0
  · by_cases c2 : m < 0
    · rw [if_pos (by omega), show n = -((n.natAbs : Nat) : Int) by omega, show m = -((m.natAbs : Nat) : Int) by omega]
      rw [Int.neg_tdiv, Int.tdiv_neg, Int.neg_neg]
      simp only [Int.natAbs_neg, Int.natAbs_natCast]
      rw [Int.tdiv_eq_ediv_of_nonneg (by omega)]
    · rw [if_neg (by omega), show n = -((n.natAbs : Nat) : Int) by omega, show m = ((m.natAbs : Nat) : Int) by omega]
      rw [Int.neg_tdiv]
      simp only [Int.natAbs_neg, Int.natAbs_natCast]
      rw [Int.tdiv_eq_ediv_of_nonneg (by omega)]
  · by_cases c2 : m < 0
    · rw [if_neg (by omega), show n = ((n.natAbs : Nat) : Int) by omega, show m = -((m.natAbs : Nat) : Int) by omega]
      rw [Int.tdiv_neg]
      simp only [Int.natAbs_neg, Int.natAbs_natCast]
      rw [Int.tdiv_eq_ediv_of_nonneg (by omega)]
    · rw [if_pos (by omega), show n = ((n.natAbs : Nat) : Int) by omega, show m = ((m.natAbs : Nat) : Int) by omega]
      simp only [Int.natAbs_natCast]
      rw [Int.tdiv_eq_ediv_of_nonneg (by omega)]

theorem tmod_abs {n m : Int} (h : n.tmod m = 0) : ((m.natAbs : Nat) : Int) ∣ ((n.natAbs : Nat) : Int) := by
  have : m ∣ n := Int.dvd_of_tmod_eq_zero h
  exact Int.natCast_dvd_natCast.2 (Int.natAbs_dvd_natAbs.2 this)

/-- The whole number beneath a quotient of whole numbers. -/
theorem whole_div {xm xe ym ye n m : Int} (hx : rightB xm xe = true) (hy : rightB ym ye = true) (vx : sV xm xe = n * 10 ^ 40) (vy : sV ym ye = m * 10 ^ 40) (hn : -9999999 ≤ n ∧ n ≤ 9999999) (hm : m ≠ 0) :
    ∃ qm qe low : Int, divR xm xe ym ye = (qm, qe, 0) ∧ floorR qm qe = (low, 0) ∧ (n.tmod m ≠ 0 → ¬ (n < 0 ↔ m < 0) → low = n.tdiv m - 1 ∨ low = n.tdiv m) ∧ ((n.tmod m = 0 ∨ (n < 0 ↔ m < 0)) → low = n.tdiv m ∨ low = n.tdiv m + 1) := by
  have sy := whole_sign vy
  have ey := quo_whole hx hy vx vy
  obtain ⟨a, ha⟩ : ∃ a : Int, ((n.natAbs : Nat) : Int) = a := ⟨_, rfl⟩
  obtain ⟨b, hb⟩ : ∃ b : Int, ((m.natAbs : Nat) : Int) = b := ⟨_, rfl⟩
  have hmod := @tmod_abs n m
  have htd := tdiv_abs (n := n) hm
  rw [ha, hb] at ey hmod htd
  have ha1 : 0 ≤ a ∧ a ≤ 9999999 := by omega
  have hb1 : 0 < b := by omega
  obtain ⟨W, hW⟩ : ∃ W : Int, a * 10 ^ 40 / b = W := ⟨_, rfl⟩
  obtain ⟨D, hD⟩ : ∃ D : Int, a / b = D := ⟨_, rfl⟩
  rw [hW] at ey
  rw [hD] at htd
  have hp40 := pow_pos' 40
  obtain ⟨u1, u2, u3⟩ := divmod a b hb1
  rw [hD] at u1
  have hD0 : 0 ≤ D := by rw [← hD]; exact Int.ediv_nonneg ha1.1 (by omega)
  have hDa : D ≤ a := by rw [← hD]; exact Int.ediv_le_self _ ha1.1
  have hWlo : D * 10 ^ 40 ≤ W := by
    rw [← hW]
    apply Int.le_ediv_of_mul_le hb1
    rw [Int.mul_right_comm]
    exact Int.mul_le_mul_of_nonneg_right (by omega) (by omega)
  have hWhi : W ≤ (D + 1) * 10 ^ 40 := by
    rw [← hW]
    apply Int.le_of_lt
    apply Int.ediv_lt_of_lt_mul hb1
    rw [Int.mul_right_comm]
    refine Int.mul_lt_mul_of_pos_right ?_ hp40
    rw [Int.add_mul]; omega
  have hW0 : 0 ≤ W := by have := Int.mul_nonneg hD0 (Int.le_of_lt hp40); omega
  have hWle : W ≤ a * 10 ^ 40 := by rw [← hW]; exact Int.ediv_le_self _ (Int.mul_nonneg ha1.1 (by omega))
  have hfit : hev W (31 + 1) ≤ 999999999999999 := by
    have h1 := hev_mono hWle 32
    rw [show (10 : Int) ^ 40 = 100000000 * 10 ^ 32 by decide, ← Int.mul_assoc, hev_exact] at h1
    show hev W 32 ≤ _
    omega
  obtain ⟨N, e, g1, g2⟩ := goV_hit (X := W) (i := 1) (by omega) hfit
  obtain ⟨i, i1, i2, i3, i4, i5, i6⟩ := goV_some 19 0 N e g1
  obtain ⟨p, hp, hp32⟩ : ∃ p : Nat, (e + 40).toNat = p ∧ p ≤ 32 := ⟨_, rfl, by omega⟩
  have hNe : N = hev W p := by rw [i3, ← hp, i4]; congr 1; omega
  have hpp := pow_pos' p
  have e40 : (10 : Int) ^ 40 = 10 ^ (40 - p) * 10 ^ p := by rw [← Int.pow_add]; congr 1; omega
  obtain ⟨U, hU⟩ : ∃ U : Int, N * 10 ^ p = U := ⟨_, rfl⟩
  have hUlo : D * 10 ^ 40 ≤ U := by
    have h1 := hev_mono hWlo p
    rw [hev_exact_lt (by omega), ← hNe] at h1
    rw [e40, ← Int.mul_assoc, ← hU]
    exact Int.mul_le_mul_of_nonneg_right h1 (by omega)
  have hUhi : U ≤ (D + 1) * 10 ^ 40 := by
    have h1 := hev_mono hWhi p
    rw [hev_exact_lt (by omega), ← hNe] at h1
    rw [e40, ← Int.mul_assoc, ← hU]
    exact Int.mul_le_mul_of_nonneg_right h1 (by omega)
  have hU0 : 0 ≤ U := by have := Int.mul_nonneg hD0 (Int.le_of_lt hp40); omega
  have hgo : ∀ v : Int, ((v.natAbs : Nat) : Int) = W → roundV v = some (if v < 0 then -U else U) := by
    intro v hv
    unfold roundV
    rw [hv, g1]
    simp only [Option.map_some, hp, hU]
  -- the sign
  have hround : roundV (qV xm xe ym ye) = some (if (n < 0 ↔ m < 0) then U else -U) := by
    rw [ey]
    by_cases c : (n < 0 ↔ m < 0)
    · rw [if_pos c, if_pos c, hgo W (by omega), if_neg (by omega)]
    · rw [if_neg c, if_neg c, hgo (-W) (by omega)]
      by_cases c2 : -W < 0
      · rw [if_pos c2]
      · rw [if_neg c2]
        have hz : W = 0 := by omega
        have : N = 0 := by rw [hNe, hz]; have := hev_exact (N := 0) (p := p); simpa using this
        rw [← hU, this]; simp
  obtain ⟨qm, qe, q1, q2, q3⟩ := near_of_round (okV_quo hx hy) hround
  have hdiv : divR xm xe ym ye = (qm, qe, 0) := by rw [divR_right hx hy (by omega), q1]
  have haq : aV qm qe = U := by rw [aV_abs, q3]; split <;> omega
  have hf : floorR qm qe = ((if (n < 0 ↔ m < 0) then U else -U) / 10 ^ 40, 0) := by
    unfold floorR
    have h1 : U / 10 ^ 40 ≤ D + 1 := by
      have := Int.ediv_le_ediv hp40 hUhi
      rwa [Int.mul_ediv_cancel _ (by omega)] at this
    rw [haq, q3, if_pos ⟨q2, by omega⟩]
  have hexact : n.tmod m = 0 → U = D * 10 ^ 40 := fun hz => by
    obtain ⟨c, hc⟩ := hmod hz
    have hDc : D = c := by rw [← hD, hc, Int.mul_ediv_cancel_left _ (by omega)]
    have hWc : W = D * 10 ^ 40 := by rw [← hW, hc, hDc, Int.mul_assoc, Int.mul_ediv_cancel_left _ (by omega)]
    have hNc : N = D * 10 ^ (40 - p) := by rw [hNe, hWc, hev_exact_lt (by omega)]
    rw [← hU, hNc, e40, Int.mul_assoc]
  refine ⟨qm, qe, _, hdiv, hf, fun h0 hs => ?_, fun h0 => ?_⟩
  · rw [if_neg hs] at htd ⊢
    obtain ⟨v1, v2, v3⟩ := divmod (-U) (10 ^ 40) hp40
    have k1 : -(D + 1) ≤ -U / 10 ^ 40 := by
      apply Int.le_ediv_of_mul_le hp40; rw [Int.neg_mul]; omega
    have k2 : -U / 10 ^ 40 ≤ -D := by
      have := Int.ediv_le_ediv hp40 (show -U ≤ (-D) * 10 ^ 40 by rw [Int.neg_mul]; omega)
      rwa [Int.mul_ediv_cancel _ (by omega)] at this
    omega
  · by_cases hs : (n < 0 ↔ m < 0)
    · rw [if_pos hs] at htd ⊢
      have k1 : D ≤ U / 10 ^ 40 := Int.le_ediv_of_mul_le hp40 hUlo
      have k2 : U / 10 ^ 40 ≤ D + 1 := by
        have := Int.ediv_le_ediv hp40 hUhi
        rwa [Int.mul_ediv_cancel _ (by omega)] at this
      omega
    · rw [if_neg hs] at htd ⊢
      have hz : n.tmod m = 0 := by
        rcases h0 with g | g
        · exact g
        · exact absurd g hs
      rw [hexact hz, ← Int.neg_mul, Int.mul_ediv_cancel _ (by omega)]
      omega

/-- Sums and products of small whole numbers. -/
theorem whole_add {xm xe ym ye n m : Int} (hx : rightB xm xe = true) (hy : rightB ym ye = true) (vx : sV xm xe = n * 10 ^ 40) (vy : sV ym ye = m * 10 ^ 40) (h : -999999999999999 ≤ n + m ∧ n + m ≤ 999999999999999) : addR xm xe ym ye = ofR (n + m) := by
  rw [addR_right hx hy, vx, vy, ← Int.add_mul, near_whole h]
theorem whole_mul {xm xe ym ye n m : Int} (hx : rightB xm xe = true) (hy : rightB ym ye = true) (vx : sV xm xe = n * 10 ^ 40) (vy : sV ym ye = m * 10 ^ 40) (h : -999999999999999 ≤ n * m ∧ n * m ≤ 999999999999999) : mulR xm xe ym ye = ofR (n * m) := by
  rw [mulR_right hx hy, mul_to hx hy vx vy, near_whole h]
theorem small_mul {n m : Int} (hn : -9999999 ≤ n ∧ n ≤ 9999999) (hm : -9999999 ≤ m ∧ m ≤ 9999999) : -99999980000001 ≤ n * m ∧ n * m ≤ 99999980000001 := by
  have h1 : (n * m).natAbs ≤ 9999999 * 9999999 := by
    rw [Int.natAbs_mul]; exact Nat.mul_le_mul (by omega) (by omega)
  omega
theorem ofR_val {n : Int} (h : -999999999999999 ≤ n ∧ n ≤ 999999999999999) : ∃ m e : Int, ofR n = (m, e, 0) ∧ rightB m e = true ∧ sV m e = n * 10 ^ 40 := by
  have h1 := ofR_ok h
  obtain ⟨h2, h3⟩ := ofR_some h1
  exact ⟨_, _, Prod.ext rfl (Prod.ext rfl h1), h2, h3⟩

end Go.Proofs.Ytabgphldbgdbpaa
