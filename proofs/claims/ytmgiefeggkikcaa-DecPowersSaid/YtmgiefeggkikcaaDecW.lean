/- The nearest decimal that the program tells, by plain mathematics. -/
import Derived.Test.YtmgiefeggkikcaaDecV
import Derived.Test.YtmgiefeggkikcaaDecU
set_option linter.unusedVariables false
set_option linter.unusedSimpArgs false
set_option maxRecDepth 20000
namespace Go.Proofs.Ytmgiefeggkikcaa
open Go Sx Dc
attribute [local semireducible] aV sV nearV mV qV

theorem evenN_digs {X : Int} {w : Nat} (h1 : 1 ≤ w) (h2 : w ≤ 87) (hX : 0 ≤ X ∧ X < 10 ^ 88) : evenN (digs 88 X) w = hev X (88 - w) := by
  have e1 : val ((digs 88 X).take w) = X / 10 ^ (88 - w) := val_take_digs (by omega) hX
  have e2 : val ((digs 88 X).drop w) = X % 10 ^ (88 - w) := val_drop_digs (by omega)
  have e3 : ((digs 88 X).drop w).length = 88 - w := by rw [List.length_drop, digs_length]
  unfold evenN upB hev
  rw [e1, e2, e3]
  obtain ⟨p, hp⟩ : ∃ p, 88 - w = p + 1 := ⟨87 - w, by omega⟩
  rw [hp, Int.pow_succ]
  simp only [Nat.add_sub_cancel]
  have hpp := pow_pos' p
  generalize (10 : Int) ^ p = P at *
  generalize X % (P * 10) = r
  generalize X / (P * 10) = q
  simp only [decide_eq_true_eq]
  by_cases c : 5 * P < r ∨ r = 5 * P ∧ q % 2 = 1
  · rw [if_pos c, if_pos (by omega)]
  · rw [if_neg c, if_neg (by omega)]

theorem nearGo_eq {X : Int} (hX : 0 ≤ X ∧ X < 10 ^ 88) : ∀ (f j : Nat), f + j ≤ 19 → nearGo (digs 88 X) f j = goV X f j
  | 0, j, _ => rfl
  | f + 1, j, h => by
    rw [nearGo, goV, evenN_digs (by omega) (by omega) hX, nearGo_eq hX f (j + 1) (by omega), show 88 - (57 - j) = 31 + j by omega]

theorem tmod_split {m : Int} (h : m.tmod 10 = 0) : m.tdiv 10 * 10 = m := by
  have := Int.tdiv_mul_cancel (Int.dvd_of_tmod_eq_zero h); omega

theorem trimD_val : ∀ (n : Nat) (m e : Int), -40 ≤ e → (trimD n m e).1 * 10 ^ ((trimD n m e).2 + 40).toNat = m * 10 ^ (e + 40).toNat
  | 0, m, e, _ => rfl
  | n + 1, m, e, h => by
    rw [trimD]
    split
    · rename_i hc
      rw [trimD_val n (m.tdiv 10) (e + 1) (by omega), show (e + 1 + 40).toNat = (e + 40).toNat + 1 by omega, Int.pow_succ]
      have := tmod_split hc
      rw [Int.mul_comm (10 ^ _) 10, ← Int.mul_assoc, this]
    · rfl
theorem trimD_right : ∀ (n : Nat) (m e : Int), m ≠ 0 → -999999999999999 ≤ m → m ≤ 999999999999999 → -9 ≤ e → e + n = 9 → rightB (trimD n m e).1 (trimD n m e).2 = true
  | 0, m, e, h0, h1, h2, h3, h4 => by
    show rightB m e = true
    exact decide_eq_true ⟨h1, h2, h3, by omega, fun hz => absurd hz h0, fun _ => .inl (by omega)⟩
  | n + 1, m, e, h0, h1, h2, h3, h4 => by
    rw [trimD]
    split
    · rename_i hc
      have := tmod_split hc
      exact trimD_right n (m.tdiv 10) (e + 1) (by omega) (by omega) (by omega) (by omega) (by omega)
    · rename_i hc
      exact decide_eq_true ⟨h1, h2, h3, by omega, fun hz => absurd hz h0, fun _ => .inr hc⟩
theorem trimmedS_right {m e : Int} (h1 : -999999999999999 ≤ m) (h2 : m ≤ 999999999999999) (h3 : -9 ≤ e) (h4 : e ≤ 9) : rightB (trimmedS m e).1 (trimmedS m e).2 = true := by
  unfold trimmedS
  split
  · rfl
  · exact trimD_right _ m e (by assumption) h1 h2 h3 (by omega)
theorem trimmedS_val {m e : Int} (h3 : -40 ≤ e) : sV (trimmedS m e).1 (trimmedS m e).2 = m * 10 ^ (e + 40).toNat := by
  unfold trimmedS sV
  split
  · rename_i h; subst h; simp
  · exact trimD_val _ m e h3

theorem right_spec {m e : Int} (h : rightB m e = true) : -999999999999999 ≤ m ∧ m ≤ 999999999999999 ∧ -9 ≤ e ∧ e ≤ 9 ∧ (m = 0 → e = 0) ∧ (m ≠ 0 → e = 9 ∨ m.tmod 10 ≠ 0) := by
  simpa only [rightB, decide_eq_true_eq] using h
theorem sV_split {m e f : Int} (h : -40 ≤ f) (hf : f ≤ e) : sV m e = m * 10 ^ (e - f).toNat * 10 ^ (f + 40).toNat := by
  unfold sV
  rw [Int.mul_assoc, ← Int.pow_add]
  congr 2; omega
theorem right_lt {m e m' e' : Int} (h : rightB m e = true) (h' : rightB m' e' = true) (hv : sV m e = sV m' e') (hlt : e < e') : False := by
  obtain ⟨a1, a2, a3, a4, a5, a6⟩ := right_spec h
  obtain ⟨b1, b2, b3, b4, b5, b6⟩ := right_spec h'
  rw [sV_split (m := m') (e := e') (f := e) (by omega) (by omega), sV] at hv
  have hm : m = m' * 10 ^ (e' - e).toNat := Int.eq_of_mul_eq_mul_right (by have := pow_pos' (e + 40).toNat; omega) hv
  obtain ⟨k, hk⟩ : ∃ k, (e' - e).toNat = k + 1 := ⟨(e' - e).toNat - 1, by omega⟩
  rw [hk, Int.pow_succ, ← Int.mul_assoc] at hm
  have ht : m.tmod 10 = 0 := by rw [hm]; exact Int.mul_tmod_left _ _
  by_cases hz : m = 0
  · have := a5 hz
    have hm' : m' = 0 := by
      rw [hz] at hm
      rcases Int.mul_eq_zero.1 hm.symm with g | g
      · rcases Int.mul_eq_zero.1 g with g | g
        · exact g
        · have := pow_pos' k; omega
      · omega
    have := b5 hm'
    omega
  · have := a6 hz
    omega
/-- Of each number there is one right decimal at most. -/
theorem right_unique {m e m' e' : Int} (h : rightB m e = true) (h' : rightB m' e' = true) (hv : sV m e = sV m' e') : m = m' ∧ e = e' := by
  rcases Int.lt_trichotomy e e' with g | g | g
  · exact (right_lt h h' hv g).elim
  · subst g
    exact ⟨Int.eq_of_mul_eq_mul_right (by have := pow_pos' (e + 40).toNat; omega) hv, rfl⟩
  · exact (right_lt h' h hv.symm g).elim

theorem goV_place {X : Int} {N e : Int} (h : goV X 19 0 = some (N, e)) : N ≤ 999999999999999 ∧ -9 ≤ e ∧ e ≤ 9 := by
  obtain ⟨i, a1, a2, a3, a4, a5, a6⟩ := goV_some 19 0 N e h
  omega
theorem goV_nn {X : Int} (h0 : 0 ≤ X) {N e : Int} (h : goV X 19 0 = some (N, e)) : 0 ≤ N := by
  obtain ⟨i, a1, a2, a3, a4, a5, a6⟩ := goV_some 19 0 N e h
  rw [a3]; exact hev_nonneg h0 _

def okV (v : Int) : Prop := v.natAbs < 10 ^ 88
theorem okV_neg {v : Int} (h : okV v) : okV (-v) := by unfold okV at *; omega
theorem okV_abs {v : Int} (h : okV v) : 0 ≤ ((v.natAbs : Nat) : Int) ∧ ((v.natAbs : Nat) : Int) < 10 ^ 88 := by
  unfold okV at h; exact ⟨by omega, by exact_mod_cast h⟩

theorem nearV_none {v : Int} (hv : okV v) (h : goV ((v.natAbs : Nat) : Int) 19 0 = none) : nearV v = (0, 0, 10) := by
  unfold nearV nearM nearE
  rw [nearGo_eq (okV_abs hv) 19 0 (by omega), h]
  rfl
theorem nearV_some {v : Int} (hv : okV v) {N e : Int} (h : goV ((v.natAbs : Nat) : Int) 19 0 = some (N, e)) : nearV v = ((trimmedS (if v < 0 then -N else N) e).1, (trimmedS (if v < 0 then -N else N) e).2, 0) := by
  unfold nearV nearM nearE
  rw [nearGo_eq (okV_abs hv) 19 0 (by omega), h]
  simp
/-- What the nearest decimal is worth. -/
def roundV (v : Int) : Option Int := (goV ((v.natAbs : Nat) : Int) 19 0).map fun p => if v < 0 then -(p.1 * 10 ^ (p.2 + 40).toNat) else p.1 * 10 ^ (p.2 + 40).toNat

theorem near_cases {v : Int} (hv : okV v) : (nearV v = (0, 0, 10) ∧ roundV v = none) ∨ (∃ m e, nearV v = (m, e, 0) ∧ rightB m e = true ∧ roundV v = some (sV m e)) := by
  unfold roundV
  cases h : goV ((v.natAbs : Nat) : Int) 19 0 with
  | none => exact .inl ⟨nearV_none hv h, rfl⟩
  | some q =>
    obtain ⟨N, e⟩ := q
    have hp := goV_place h
    have hn := goV_nn (by omega) h
    refine .inr ⟨_, _, nearV_some hv h, ?_, ?_⟩
    · exact trimmedS_right (by split <;> omega) (by split <;> omega) hp.2.1 hp.2.2
    · rw [trimmedS_val (by omega)]
      simp only [Option.map_some]
      split <;> simp [Int.neg_mul]

theorem near_of_round {v w : Int} (hv : okV v) (h : roundV v = some w) : ∃ m e, nearV v = (m, e, 0) ∧ rightB m e = true ∧ sV m e = w := by
  rcases near_cases hv with ⟨_, h2⟩ | ⟨m, e, h1, h2, h3⟩
  · rw [h2] at h; cases h
  · exact ⟨m, e, h1, h2, by rw [h3] at h; exact Option.some.inj h⟩
theorem near_eq {v m e : Int} (hv : okV v) (hr : rightB m e = true) (h : roundV v = some (sV m e)) : nearV v = (m, e, 0) := by
  obtain ⟨m', e', h1, h2, h3⟩ := near_of_round hv h
  obtain ⟨rfl, rfl⟩ := right_unique h2 hr h3
  exact h1
theorem round_of_near {v m e : Int} (hv : okV v) (h : nearV v = (m, e, 0)) : rightB m e = true ∧ roundV v = some (sV m e) := by
  rcases near_cases hv with ⟨h1, _⟩ | ⟨m', e', h1, h2, h3⟩
  · rw [h] at h1; simp at h1
  · rw [h] at h1
    simp only [Prod.mk.injEq] at h1
    obtain ⟨rfl, rfl, _⟩ := h1
    exact ⟨h2, h3⟩

theorem round_neg (v : Int) : roundV (-v) = (roundV v).map fun w => -w := by
  by_cases hz : v = 0
  · subst hz; rfl
  · unfold roundV
    rw [Int.natAbs_neg]
    cases goV ((v.natAbs : Nat) : Int) 19 0 with
    | none => rfl
    | some q =>
      simp only [Option.map_some, Option.some.injEq]
      by_cases c : v < 0
      · rw [if_pos c, if_neg (by omega)]; omega
      · rw [if_neg c, if_pos (by omega)]
theorem sV_neg2 (m e : Int) : sV (-m) e = -sV m e := by unfold sV; rw [Int.neg_mul]
theorem right_neg {m e : Int} (h : rightB m e = true) : rightB (-m) e = true := by
  have := right_spec h
  simp only [rightB, decide_eq_true_eq]
  have h2 : (-m).tmod 10 = -(m.tmod 10) := Int.neg_tmod _ _
  omega
/-- Turned about, the nearest decimal has the other sign. -/
theorem near_neg {v : Int} (hv : okV v) : nearV (-v) = (-(nearV v).1, (nearV v).2.1, (nearV v).2.2) := by
  rcases near_cases hv with ⟨h1, h2⟩ | ⟨m, e, h1, h2, h3⟩
  · rw [h1]
    rcases near_cases (okV_neg hv) with ⟨k1, _⟩ | ⟨m', e', k1, k2, k3⟩
    · rw [k1]; rfl
    · rw [round_neg, h2] at k3; cases k3
  · rw [h1]
    exact near_eq (okV_neg hv) (right_neg h2) (by rw [round_neg, h3, sV_neg2]; rfl)

theorem sV_abs (m e : Int) : (((sV m e).natAbs : Nat) : Int) = ((m.natAbs : Nat) : Int) * 10 ^ (e + 40).toNat := by
  unfold sV
  rw [Int.natAbs_mul]
  have := pow_pos' (e + 40).toNat
  have e2 : (((10 : Int) ^ (e + 40).toNat).natAbs : Int) = 10 ^ (e + 40).toNat := by omega
  rw [Int.natCast_mul, e2]
theorem okV_sV {m e : Int} (h : rightB m e = true) : okV (sV m e) := by
  obtain ⟨a1, a2, a3, a4, a5, a6⟩ := right_spec h
  have h1 := sV_abs m e
  have h2 : ((m.natAbs : Nat) : Int) * 10 ^ (e + 40).toNat ≤ 999999999999999 * 10 ^ 49 := by
    refine Int.mul_le_mul (by omega) (pow_mono (by omega)) (Int.le_of_lt (pow_pos' _)) (by omega)
  unfold okV
  have : (((sV m e).natAbs : Nat) : Int) < ((10 ^ 88 : Nat) : Int) := by rw [h1]; exact Int.lt_of_le_of_lt h2 (by decide)
  exact_mod_cast this

theorem goV_exact {N : Int} {i : Nat} (hi : i < 19) (hN : N ≤ 999999999999999) : ∃ M e, goV (N * 10 ^ (31 + i)) 19 0 = some (M, e) ∧ M * 10 ^ (e + 40).toNat = N * 10 ^ (31 + i) := by
  obtain ⟨M, e, h1, h2⟩ := goV_hit (X := N * 10 ^ (31 + i)) hi (by rw [hev_exact]; exact hN)
  refine ⟨M, e, h1, ?_⟩
  obtain ⟨k, a1, a2, a3, a4, a5, a6⟩ := goV_some 19 0 M e h1
  subst a4
  rw [a3, hev_exact_lt (by omega), show ((k : Int) - 9 + 40).toNat = 31 + k by omega, Int.mul_assoc, ← Int.pow_add]
  congr 2; omega
/-- A number that is a whole one of fifteen digits times ten to one of its places is rounded as it is. -/
theorem round_exact {M e : Int} (hM : M.natAbs ≤ 999999999999999) (he : -9 ≤ e ∧ e ≤ 9) : roundV (M * 10 ^ (e + 40).toNat) = some (M * 10 ^ (e + 40).toNat) := by
  have ha : (((M * 10 ^ (e + 40).toNat).natAbs : Nat) : Int) = ((M.natAbs : Nat) : Int) * 10 ^ (e + 40).toNat := sV_abs M e
  unfold roundV
  rw [ha]
  obtain ⟨N, e', h1, h2⟩ := goV_exact (N := ((M.natAbs : Nat) : Int)) (i := (e + 9).toNat) (by omega) (by omega)
  rw [show (e + 40).toNat = 31 + (e + 9).toNat by omega, h1]
  simp only [Option.map_some, h2]
  have hp := pow_pos' (31 + (e + 9).toNat)
  by_cases c : M * 10 ^ (31 + (e + 9).toNat) < 0
  · have : M < 0 := by
      rcases Int.lt_or_le M 0 with g | g
      · exact g
      · have := Int.mul_nonneg g (Int.le_of_lt hp); omega
    rw [if_pos c, show ((M.natAbs : Nat) : Int) = -M by omega, Int.neg_mul, Int.neg_neg]
  · have : 0 ≤ M := by
      rcases Int.lt_or_le M 0 with g | g
      · have h := Int.mul_neg_of_neg_of_pos g hp; omega
      · exact g
    rw [if_neg c, show ((M.natAbs : Nat) : Int) = M by omega]
theorem round_right {m e : Int} (h : rightB m e = true) : roundV (sV m e) = some (sV m e) := by
  have := right_spec h
  exact round_exact (by omega) (by omega)
/-- The nearest decimal of a decimal is it. -/
theorem near_right {m e : Int} (h : rightB m e = true) : nearV (sV m e) = (m, e, 0) := near_eq (okV_sV h) h (round_right h)

theorem round_sign {v w : Int} (h : roundV v = some w) : (0 ≤ v → 0 ≤ w) ∧ (v ≤ 0 → w ≤ 0) := by
  unfold roundV at h
  cases hg : goV ((v.natAbs : Nat) : Int) 19 0 with
  | none => rw [hg] at h; cases h
  | some q =>
    obtain ⟨N, e⟩ := q
    rw [hg] at h
    simp only [Option.map_some, Option.some.injEq] at h
    have hn := goV_nn (by omega) hg
    have h2 : 0 ≤ N * 10 ^ (e + 40).toNat := Int.mul_nonneg hn (Int.le_of_lt (pow_pos' _))
    by_cases c : v < 0
    · rw [if_pos c] at h; omega
    · rw [if_neg c] at h
      refine ⟨fun _ => by omega, fun h0 => ?_⟩
      have hz : v = 0 := by omega
      subst hz
      have he := hev_exact (N := 0) (p := 31)
      have : goV ((Int.natAbs 0 : Nat) : Int) 19 0 = some (0, -9) := by decide +kernel
      rw [this] at hg
      simp only [Option.some.injEq, Prod.mk.injEq] at hg
      obtain ⟨rfl, rfl⟩ := hg
      omega
/-- Rounding keeps the order. -/
theorem round_mono {v w x y : Int} (h : v ≤ w) (hv : roundV v = some x) (hw : roundV w = some y) : x ≤ y := by
  by_cases c1 : v < 0
  · by_cases c2 : w < 0
    · unfold roundV at hv hw
      cases hg : goV ((v.natAbs : Nat) : Int) 19 0 with
      | none => rw [hg] at hv; cases hv
      | some q =>
        cases hg' : goV ((w.natAbs : Nat) : Int) 19 0 with
        | none => rw [hg'] at hw; cases hw
        | some q' =>
          obtain ⟨N, e⟩ := q
          obtain ⟨N', e'⟩ := q'
          rw [hg] at hv; rw [hg'] at hw
          simp only [Option.map_some, Option.some.injEq, if_pos c1, if_pos c2] at hv hw
          have := goV_mono (X := ((w.natAbs : Nat) : Int)) (Y := ((v.natAbs : Nat) : Int)) (by omega) (by omega) hg' hg
          omega
    · have h1 := (round_sign hv).2 (by omega)
      have h2 := (round_sign hw).1 (by omega)
      omega
  · unfold roundV at hv hw
    cases hg : goV ((v.natAbs : Nat) : Int) 19 0 with
    | none => rw [hg] at hv; cases hv
    | some q =>
      cases hg' : goV ((w.natAbs : Nat) : Int) 19 0 with
      | none => rw [hg'] at hw; cases hw
      | some q' =>
        obtain ⟨N, e⟩ := q
        obtain ⟨N', e'⟩ := q'
        rw [hg] at hv; rw [hg'] at hw
        simp only [Option.map_some, Option.some.injEq, if_neg c1, if_neg (show ¬ w < 0 by omega)] at hv hw
        have := goV_mono (X := ((v.natAbs : Nat) : Int)) (Y := ((w.natAbs : Nat) : Int)) (by omega) (by omega) hg hg'
        omega

end Go.Proofs.Ytmgiefeggkikcaa
