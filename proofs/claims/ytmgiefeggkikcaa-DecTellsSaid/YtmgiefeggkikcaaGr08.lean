import Derived.Test.YtmgiefeggkikcaaGr05
import Derived.Test.YtmgiefeggkikcaaGr07
import Derived.Lib.Bytealg
import Derived.Test.YtmgiefeggkikcaaGr04
set_option linter.unusedVariables false
set_option linter.unusedSimpArgs false
set_option maxRecDepth 20000
namespace Go.Proofs.Ytmgiefeggkikcaa.Dc
def hev (X : Int) (p : Nat) : Int := if 10 ^ p < 2 * (X % 10 ^ p) ∨ (2 * (X % 10 ^ p) = 10 ^ p ∧ X / 10 ^ p % 2 = 1) then X / 10 ^ p + 1 else X / 10 ^ p
theorem hev_range (X : Int) (p : Nat) : X / 10 ^ p ≤ hev X p ∧ hev X p ≤ X / 10 ^ p + 1 := by unfold hev; split <;> omega
theorem hev_exact {N : Int} {p : Nat} : hev (N * 10 ^ p) p = N := by
  have hp := pow_pos' p
  unfold hev
  rw [Int.mul_emod_left, Int.mul_ediv_cancel _ (by omega)]
  rw [if_neg (by omega)]
theorem hev_exact_lt {N : Int} {p q : Nat} (h : p ≤ q) : hev (N * 10 ^ q) p = N * 10 ^ (q - p) := by
  have e : N * 10 ^ q = N * 10 ^ (q - p) * 10 ^ p := by rw [Int.mul_assoc, ← Int.pow_add]; congr 2; omega
  rw [e, hev_exact]
theorem hev_nonneg {X : Int} (h : 0 ≤ X) (p : Nat) : 0 ≤ hev X p := by
  have := (hev_range X p).1
  have h2 : 0 ≤ X / 10 ^ p := Int.ediv_nonneg h (Int.le_of_lt (pow_pos' p))
  omega
def goV (X : Int) : Nat → Nat → Option (Int × Int)
  | 0, _ => none
  | f + 1, j => if hev X (31 + j) ≤ 999999999999999 then some (hev X (31 + j), (j : Int) - 9) else goV X f (j + 1)
theorem goV_some {X : Int} : ∀ (f j : Nat) (N e : Int), goV X f j = some (N, e) →
    ∃ i : Nat, j ≤ i ∧ i < j + f ∧ N = hev X (31 + i) ∧ e = (i : Int) - 9 ∧ N ≤ 999999999999999 ∧ ∀ k, j ≤ k → k < i → 999999999999999 < hev X (31 + k)
  | 0, j, N, e, h => by cases h
  | f + 1, j, N, e, h => by
    rw [goV] at h
    split at h
    · rename_i hc
      simp only [Option.some.injEq, Prod.mk.injEq] at h
      obtain ⟨rfl, rfl⟩ := h
      exact ⟨j, Nat.le_refl _, by omega, rfl, rfl, hc, fun k h1 h2 => absurd h1 (by omega)⟩
    · rename_i hc
      obtain ⟨i, h1, h2, h3, h4, h5, h6⟩ := goV_some f (j + 1) N e h
      refine ⟨i, by omega, by omega, h3, h4, h5, fun k k1 k2 => ?_⟩
      by_cases hk : k = j
      · subst hk; omega
      · exact h6 k (by omega) k2
theorem goV_none {X : Int} : ∀ (f j : Nat), goV X f j = none → ∀ k, j ≤ k → k < j + f → 999999999999999 < hev X (31 + k)
  | 0, j, h, k, h1, h2 => by omega
  | f + 1, j, h, k, h1, h2 => by
    rw [goV] at h
    split at h
    · cases h
    · rename_i hc
      by_cases hk : k = j
      · subst hk; omega
      · exact goV_none f (j + 1) h k (by omega) (by omega)
theorem goV_hit {X : Int} {i : Nat} (hi : i < 19) (h1 : hev X (31 + i) ≤ 999999999999999) : ∃ N e, goV X 19 0 = some (N, e) ∧ e ≤ (i : Int) - 9 := by
  cases h : goV X 19 0 with
  | none => have := goV_none 19 0 h i (by omega) (by omega); omega
  | some q =>
    obtain ⟨N, e⟩ := q
    obtain ⟨k, a1, a2, a3, a4, a5, a6⟩ := goV_some 19 0 N e h
    refine ⟨N, e, rfl, ?_⟩
    rcases Nat.lt_or_ge i k with g | g
    · have := a6 i (by omega) g; omega
    · omega
end Go.Proofs.Ytmgiefeggkikcaa.Dc
namespace Go.Proofs.Ytmgiefeggkikcaa
open Go Sx Dc
attribute [local semireducible] aV sV nearV mV qV
theorem evenN_digs {X : Int} {w : Nat} (h1 : 1 ≤ w) (h2 : w ≤ 87) (hX : 0 ≤ X ∧ X < 10 ^ 88) : evenN (digs 88 X) w = hev X (88 - w) := by
  have e1 : val ((digs 88 X).take w) = X / 10 ^ (88 - w) := val_take_digs (by omega) hX
  have e2 : val ((digs 88 X).drop w) = X % 10 ^ (88 - w) := val_drop_digs (by omega)
  have e3 : ((digs 88 X).drop w).length = 88 - w := by rw [List.length_drop, qyz]
  unfold evenN upB hev
  rw [e1, e2, e3]
  obtain ⟨p, hp⟩ : ∃ p, 88 - w = p + 1 := ⟨87 - w, by omega⟩
  rw [hp, Int.pow_succ]
  simp only [Nat.add_sub_cancel]
  have hpp := pow_pos' p
  generalize (10 : Int) ^ p = P at *
  generalize X % (P * 10) = r
  generalize X / (P * 10) = q
  simp only [decide_eq_true_eq]
  by_cases c : 5 * P < r ∨ r = 5 * P ∧ q % 2 = 1
  · rw [if_pos c, if_pos (by omega)]
  · rw [if_neg c, if_neg (by omega)]
theorem nearGo_eq {X : Int} (hX : 0 ≤ X ∧ X < 10 ^ 88) : ∀ (f j : Nat), f + j ≤ 19 → nearGo (digs 88 X) f j = goV X f j
  | 0, j, _ => rfl
  | f + 1, j, h => by
    rw [nearGo, goV, evenN_digs (by omega) (by omega) hX, nearGo_eq hX f (j + 1) (by omega), show 88 - (57 - j) = 31 + j by omega]
theorem tmod_split {m : Int} (h : m.tmod 10 = 0) : m.tdiv 10 * 10 = m := by
  have := Int.tdiv_mul_cancel (Int.dvd_of_tmod_eq_zero h); omega
theorem trimD_val : ∀ (n : Nat) (m e : Int), -40 ≤ e → (trimD n m e).1 * 10 ^ ((trimD n m e).2 + 40).toNat = m * 10 ^ (e + 40).toNat
  | 0, m, e, _ => rfl
  | n + 1, m, e, h => by
    rw [trimD]
    split
    · rename_i hc
      rw [trimD_val n (m.tdiv 10) (e + 1) (by omega), show (e + 1 + 40).toNat = (e + 40).toNat + 1 by omega, Int.pow_succ]
      have := tmod_split hc
      rw [Int.mul_comm (10 ^ _) 10, ← Int.mul_assoc, this]
    · rfl
theorem trimD_right : ∀ (n : Nat) (m e : Int), m ≠ 0 → -999999999999999 ≤ m → m ≤ 999999999999999 → -9 ≤ e → e + n = 9 → qzz (trimD n m e).1 (trimD n m e).2 = true
  | 0, m, e, h0, h1, h2, h3, h4 => by
    show qzz m e = true
    exact decide_eq_true ⟨h1, h2, h3, by omega, fun hz => absurd hz h0, fun _ => .inl (by omega)⟩
  | n + 1, m, e, h0, h1, h2, h3, h4 => by
    rw [trimD]
    split
    · rename_i hc
      have := tmod_split hc
      exact trimD_right n (m.tdiv 10) (e + 1) (by omega) (by omega) (by omega) (by omega) (by omega)
    · rename_i hc
      exact decide_eq_true ⟨h1, h2, h3, by omega, fun hz => absurd hz h0, fun _ => .inr hc⟩
theorem trimmedS_right {m e : Int} (h1 : -999999999999999 ≤ m) (h2 : m ≤ 999999999999999) (h3 : -9 ≤ e) (h4 : e ≤ 9) : qzz (qzw m e).1 (qzw m e).2 = true := by
  unfold qzw
  split
  · rfl
  · exact trimD_right _ m e (by assumption) h1 h2 h3 (by omega)
theorem trimmedS_val {m e : Int} (h3 : -40 ≤ e) : sV (qzw m e).1 (qzw m e).2 = m * 10 ^ (e + 40).toNat := by
  unfold qzw sV
  split
  · rename_i h; subst h; simp
  · exact trimD_val _ m e h3
theorem right_spec {m e : Int} (h : qzz m e = true) : -999999999999999 ≤ m ∧ m ≤ 999999999999999 ∧ -9 ≤ e ∧ e ≤ 9 ∧ (m = 0 → e = 0) ∧ (m ≠ 0 → e = 9 ∨ m.tmod 10 ≠ 0) := by
  simpa only [qzz, decide_eq_true_eq] using h
theorem sV_split {m e f : Int} (h : -40 ≤ f) (hf : f ≤ e) : sV m e = m * 10 ^ (e - f).toNat * 10 ^ (f + 40).toNat := by
  unfold sV
  rw [Int.mul_assoc, ← Int.pow_add]
  congr 2; omega
theorem right_lt {m e m' e' : Int} (h : qzz m e = true) (h' : qzz m' e' = true) (hv : sV m e = sV m' e') (hlt : e < e') : False := by
  obtain ⟨a1, a2, a3, a4, a5, a6⟩ := right_spec h
  obtain ⟨b1, b2, b3, b4, b5, b6⟩ := right_spec h'
  rw [sV_split (m := m') (e := e') (f := e) (by omega) (by omega), sV] at hv
  have hm : m = m' * 10 ^ (e' - e).toNat := Int.eq_of_mul_eq_mul_right (by have := pow_pos' (e + 40).toNat; omega) hv
  obtain ⟨k, hk⟩ : ∃ k, (e' - e).toNat = k + 1 := ⟨(e' - e).toNat - 1, by omega⟩
  rw [hk, Int.pow_succ, ← Int.mul_assoc] at hm
  have ht : m.tmod 10 = 0 := by rw [hm]; exact Int.mul_tmod_left _ _
  by_cases hz : m = 0
  · have := a5 hz
    have hm' : m' = 0 := by
      rw [hz] at hm
      rcases Int.mul_eq_zero.1 hm.symm with g | g
      · rcases Int.mul_eq_zero.1 g with g | g
        · exact g
        · have := pow_pos' k; omega
      · omega
    have := b5 hm'
    omega
  · have := a6 hz
    omega
theorem right_unique {m e m' e' : Int} (h : qzz m e = true) (h' : qzz m' e' = true) (hv : sV m e = sV m' e') : m = m' ∧ e = e' := by
  rcases Int.lt_trichotomy e e' with g | g | g
  · exact (right_lt h h' hv g).elim
  · subst g
    exact ⟨Int.eq_of_mul_eq_mul_right (by have := pow_pos' (e + 40).toNat; omega) hv, rfl⟩
  · exact (right_lt h' h hv.symm g).elim
theorem goV_place {X : Int} {N e : Int} (h : goV X 19 0 = some (N, e)) : N ≤ 999999999999999 ∧ -9 ≤ e ∧ e ≤ 9 := by
  obtain ⟨i, a1, a2, a3, a4, a5, a6⟩ := goV_some 19 0 N e h
  omega
theorem goV_nn {X : Int} (h0 : 0 ≤ X) {N e : Int} (h : goV X 19 0 = some (N, e)) : 0 ≤ N := by
  obtain ⟨i, a1, a2, a3, a4, a5, a6⟩ := goV_some 19 0 N e h
  rw [a3]; exact hev_nonneg h0 _
def okV (v : Int) : Prop := v.natAbs < 10 ^ 88
theorem okV_abs {v : Int} (h : okV v) : 0 ≤ ((v.natAbs : Nat) : Int) ∧ ((v.natAbs : Nat) : Int) < 10 ^ 88 := by
  unfold okV at h; exact ⟨by omega, by exact_mod_cast h⟩
theorem nearV_none {v : Int} (hv : okV v) (h : goV ((v.natAbs : Nat) : Int) 19 0 = none) : nearV v = (0, 0, 10) := by
  unfold nearV nearM nearE
  rw [nearGo_eq (okV_abs hv) 19 0 (by omega), h]
  rfl
theorem nearV_some {v : Int} (hv : okV v) {N e : Int} (h : goV ((v.natAbs : Nat) : Int) 19 0 = some (N, e)) : nearV v = ((qzw (if v < 0 then -N else N) e).1, (qzw (if v < 0 then -N else N) e).2, 0) := by
  unfold nearV nearM nearE
  rw [nearGo_eq (okV_abs hv) 19 0 (by omega), h]
  simp
def roundV (v : Int) : Option Int := (goV ((v.natAbs : Nat) : Int) 19 0).map fun p => if v < 0 then -(p.1 * 10 ^ (p.2 + 40).toNat) else p.1 * 10 ^ (p.2 + 40).toNat
theorem near_cases {v : Int} (hv : okV v) : (nearV v = (0, 0, 10) ∧ roundV v = none) ∨ (∃ m e, nearV v = (m, e, 0) ∧ qzz m e = true ∧ roundV v = some (sV m e)) := by
  unfold roundV
  cases h : goV ((v.natAbs : Nat) : Int) 19 0 with
  | none => exact .inl ⟨nearV_none hv h, rfl⟩
  | some q =>
    obtain ⟨N, e⟩ := q
    have hp := goV_place h
    have hn := goV_nn (by omega) h
    refine .inr ⟨_, _, nearV_some hv h, ?_, ?_⟩
    · exact trimmedS_right (by split <;> omega) (by split <;> omega) hp.2.1 hp.2.2
    · rw [trimmedS_val (by omega)]
      simp only [Option.map_some]
      split <;> simp [Int.neg_mul]
theorem near_of_round {v w : Int} (hv : okV v) (h : roundV v = some w) : ∃ m e, nearV v = (m, e, 0) ∧ qzz m e = true ∧ sV m e = w := by
  rcases near_cases hv with ⟨_, h2⟩ | ⟨m, e, h1, h2, h3⟩
  · rw [h2] at h; cases h
  · exact ⟨m, e, h1, h2, by rw [h3] at h; exact Option.some.inj h⟩
theorem near_eq {v m e : Int} (hv : okV v) (hr : qzz m e = true) (h : roundV v = some (sV m e)) : nearV v = (m, e, 0) := by
  obtain ⟨m', e', h1, h2, h3⟩ := near_of_round hv h
  obtain ⟨rfl, rfl⟩ := right_unique h2 hr h3
  exact h1
theorem sV_abs (m e : Int) : (((sV m e).natAbs : Nat) : Int) = ((m.natAbs : Nat) : Int) * 10 ^ (e + 40).toNat := by
  unfold sV
  rw [Int.natAbs_mul]
  have := pow_pos' (e + 40).toNat
  have e2 : (((10 : Int) ^ (e + 40).toNat).natAbs : Int) = 10 ^ (e + 40).toNat := by omega
  rw [Int.natCast_mul, e2]
theorem okV_sV {m e : Int} (h : qzz m e = true) : okV (sV m e) := by
  obtain ⟨a1, a2, a3, a4, a5, a6⟩ := right_spec h
  have h1 := sV_abs m e
  have h2 : ((m.natAbs : Nat) : Int) * 10 ^ (e + 40).toNat ≤ 999999999999999 * 10 ^ 49 := by
    refine Int.mul_le_mul (by omega) (pow_mono (by omega)) (Int.le_of_lt (pow_pos' _)) (by omega)
  unfold okV
  have : (((sV m e).natAbs : Nat) : Int) < ((10 ^ 88 : Nat) : Int) := by rw [h1]; exact Int.lt_of_le_of_lt h2 (by decide)
  exact_mod_cast this
theorem goV_exact {N : Int} {i : Nat} (hi : i < 19) (hN : N ≤ 999999999999999) : ∃ M e, goV (N * 10 ^ (31 + i)) 19 0 = some (M, e) ∧ M * 10 ^ (e + 40).toNat = N * 10 ^ (31 + i) := by
  obtain ⟨M, e, h1, h2⟩ := goV_hit (X := N * 10 ^ (31 + i)) hi (by rw [hev_exact]; exact hN)
  refine ⟨M, e, h1, ?_⟩
  obtain ⟨k, a1, a2, a3, a4, a5, a6⟩ := goV_some 19 0 M e h1
  subst a4
  rw [a3, hev_exact_lt (by omega), show ((k : Int) - 9 + 40).toNat = 31 + k by omega, Int.mul_assoc, ← Int.pow_add]
  congr 2; omega
theorem round_exact {M e : Int} (hM : M.natAbs ≤ 999999999999999) (he : -9 ≤ e ∧ e ≤ 9) : roundV (M * 10 ^ (e + 40).toNat) = some (M * 10 ^ (e + 40).toNat) := by
  have ha : (((M * 10 ^ (e + 40).toNat).natAbs : Nat) : Int) = ((M.natAbs : Nat) : Int) * 10 ^ (e + 40).toNat := sV_abs M e
  unfold roundV
  rw [ha]
  obtain ⟨N, e', h1, h2⟩ := goV_exact (N := ((M.natAbs : Nat) : Int)) (i := (e + 9).toNat) (by omega) (by omega)
  rw [show (e + 40).toNat = 31 + (e + 9).toNat by omega, h1]
  simp only [Option.map_some, h2]
  have hp := pow_pos' (31 + (e + 9).toNat)
  by_cases c : M * 10 ^ (31 + (e + 9).toNat) < 0
  · have : M < 0 := by
      rcases Int.lt_or_le M 0 with g | g
      · exact g
      · have := Int.mul_nonneg g (Int.le_of_lt hp); omega
    rw [if_pos c, show ((M.natAbs : Nat) : Int) = -M by omega, Int.neg_mul, Int.neg_neg]
  · have : 0 ≤ M := by
      rcases Int.lt_or_le M 0 with g | g
      · have h := Int.mul_neg_of_neg_of_pos g hp; omega
      · exact g
    rw [if_neg c, show ((M.natAbs : Nat) : Int) = M by omega]
theorem round_right {m e : Int} (h : qzz m e = true) : roundV (sV m e) = some (sV m e) := by
  have := right_spec h
  exact round_exact (by omega) (by omega)
theorem near_right {m e : Int} (h : qzz m e = true) : nearV (sV m e) = (m, e, 0) := near_eq (okV_sV h) h (round_right h)
end Go.Proofs.Ytmgiefeggkikcaa
namespace Go.Proofs.Ytmgiefeggkikcaa
open Go Sx Dc
def pickR (c n : Int) : Int := if c < 0 then (-(c + 1)).tmod n else c.tmod n
theorem pickR_range {c n : Int} (hn : 0 < n) : 0 ≤ pickR c n ∧ pickR c n < n := by
  unfold pickR
  split
  · exact ⟨Int.tmod_nonneg _ (by omega), Int.tmod_lt_of_pos _ hn⟩
  · exact ⟨Int.tmod_nonneg _ (by omega), Int.tmod_lt_of_pos _ hn⟩
theorem pick_meets (c n : Int) (hc : -9223372036854775808 ≤ c ∧ c < 9223372036854775808) (hn : 0 < n) : Meets Try.prog 19 [jI c, jI n] [] (jI (pickR c n)) [] := by
  let q1 : List Orc := [rG []]
  by_cases c1 : c < 0
  · exact qzy (fn := Try.f19) 0 (q1 ++ [rG [hhB 1 true], rG [hhI 1 (c + 1), hhI 2 (-(c + 1))], rG []]) [{}] Try.func19 (by kernel_rfl) Try.call19
      (oA (oS (bT c1)) <| oA (oWs (c + 1) (by omega)) <| oA (oW (0 - (c + 1)) (-(c + 1)) (by omega)) <| oS (show (n : Int) ≠ 0 from by omega))
      (oS (show jI ((-(c + 1)).tmod n) = jI (pickR c n) from by simp [pickR, *])) (by kernel_rfl)
  · exact qzy (fn := Try.f19) 0 (q1 ++ [rG [hhB 1 false], rG []]) [{}] Try.func19 (by kernel_rfl) Try.call19
      (oA (oS (bF c1)) <| oS (show (n : Int) ≠ 0 from by omega))
      (oS (show jI (c.tmod n) = jI (pickR c n) from by simp [pickR, *])) (by kernel_rfl)
theorem reright_meets (m e : Int) : Meets Try.prog 50 [jA [jI m, jI e]] [] (jB (qzz m e)) [] := by
  let q1 : List Orc := [rG [hhN 0 0]]
  by_cases c1 : m < (-999999999999999)
  · exact qzy (fn := Try.f50) 1 (q1 ++ [rG [hhI 1 m, hhB 2 true], rG []]) [{}] Try.func50 (by kernel_rfl) Try.call50
      (oA (oLf ([jI m, jI e]) (0) (jI m) (rfl)) <| oS (bT c1))
      (oS (show jB false = jB (qzz m e) from boolE (by rw [Bool.eq_iff_iff]; simp [qzz]; omega))) (by kernel_rfl)
  · have o1 := oA (oLf ([jI m, jI e]) (0) (jI m) (rfl)) <| oA (oS (bF c1)) <| oLf ([jI m, jI e]) (0) (jI m) (rfl)
    by_cases c2 : m > 999999999999999
    · exact qzy (fn := Try.f50) 1 (q1 ++ [rG [hhI 1 m, hhB 2 false, hhI 5 m, hhB 6 true], rG []]) [{}] Try.func50 (by kernel_rfl) Try.call50
        (oA o1 <| oS (bT c2))
        (oS (show jB false = jB (qzz m e) from boolE (by rw [Bool.eq_iff_iff]; simp [qzz]; omega))) (by kernel_rfl)
    · have o2 := oA (oS (bF c2)) <| oLf ([jI m, jI e]) (1) (jI e) (rfl)
      by_cases c3 : e < (-9)
      · exact qzy (fn := Try.f50) 1 (q1 ++ [rG [hhI 1 m, hhB 2 false, hhI 5 m, hhB 6 false, hhI 10 e, hhB 11 true], rG []]) [{}] Try.func50 (by kernel_rfl) Try.call50
          (oA o1 <| oA o2 <| oS (bT c3))
          (oS (show jB false = jB (qzz m e) from boolE (by rw [Bool.eq_iff_iff]; simp [qzz]; omega))) (by kernel_rfl)
      · have o3 := oA (oS (bF c3)) <| oLf ([jI m, jI e]) (1) (jI e) (rfl)
        by_cases c4 : e > 9
        · exact qzy (fn := Try.f50) 1 (q1 ++ [rG [hhI 1 m, hhB 2 false, hhI 5 m, hhB 6 false, hhI 10 e, hhB 11 false, hhI 15 e, hhB 16 true], rG []]) [{}] Try.func50 (by kernel_rfl) Try.call50
            (oA o1 <| oA o2 <| oA o3 <| oS (bT c4))
            (oS (show jB false = jB (qzz m e) from boolE (by rw [Bool.eq_iff_iff]; simp [qzz]; omega))) (by kernel_rfl)
        · have o4 := oA (oS (bF c4)) <| oLf ([jI m, jI e]) (0) (jI m) (rfl)
          let q2 : List Orc := [rG [hhI 1 m, hhB 2 false, hhI 5 m, hhB 6 false, hhI 10 e, hhB 11 false, hhI 15 e, hhB 16 false]]
          by_cases c5 : m = 0
          · exact qzy (fn := Try.f50) 1 (q1 ++ (q2 ++ [rG [hhI 1 m, hhB 2 true], rG [hhI 1 e]])) [{}] Try.func50 (by kernel_rfl) Try.call50
              (oA o1 <| oA o2 <| oA o3 <| oA o4 <| oA (oS (eqT c5)) <| oLf ([jI m, jI e]) (1) (jI e) (rfl))
              (oS (show jB (e == 0) = jB (qzz m e) from boolE (by rw [Bool.eq_iff_iff]; simp [qzz]; omega))) (by kernel_rfl)
          · have o5 := oA (oS (eqF c5)) <| oA (oLf ([jI m, jI e]) (0) (jI m) (rfl)) <| oS (show (10 : Int) ≠ 0 from by decide)
            let q3 : List Orc := [rG [hhI 1 m, hhB 2 false]]
            by_cases c6 : (m.tmod 10) = 0
            · exact qzy (fn := Try.f50) 1 (q1 ++ (q2 ++ (q3 ++ [rG [hhI 1 m, hhB 3 false, hhI 6 e]]))) [{}] Try.func50 (by kernel_rfl) Try.call50
                (oA o1 <| oA o2 <| oA o3 <| oA o4 <| oA o5 <| oA (oS (neF c6)) <| oLf ([jI m, jI e]) (1) (jI e) (rfl))
                (oS (show jB (e == 9) = jB (qzz m e) from boolE (by rw [Bool.eq_iff_iff]; simp [qzz]; omega))) (by kernel_rfl)
            · exact qzy (fn := Try.f50) 1 (q1 ++ (q2 ++ (q3 ++ [rG [hhI 1 m, hhB 3 true]]))) [{}] Try.func50 (by kernel_rfl) Try.call50
                (oA o1 <| oA o2 <| oA o3 <| oA o4 <| oA o5 <| oS (neT c6))
                (oS (show jB true = jB (qzz m e) from boolE (by rw [Bool.eq_iff_iff]; simp [qzz]; omega))) (by kernel_rfl)
def trimL (m e : Int) : Int × Int := if m = 0 then (m, e) else trimD (9 - e).toNat m e
theorem trimL_step {m e : Int} (h0 : m ≠ 0) (h1 : m.tmod 10 = 0) (h2 : e < 9) : trimL m e = trimL (m.tdiv 10) (e + 1) := by
  have := tmod_split h1
  unfold trimL
  rw [if_neg h0, if_neg (by omega), show (9 - e).toNat = (9 - (e + 1)).toNat + 1 by omega, trimD, if_pos h1]
theorem trimL_last {m e : Int} (h : ¬ (m ≠ 0 ∧ m.tmod 10 = 0 ∧ e < 9)) : trimL m e = (m, e) := by
  unfold trimL
  split
  · rfl
  · by_cases h9 : e < 9
    · rw [show (9 - e).toNat = (9 - (e + 1)).toNat + 1 by omega, trimD, if_neg fun k => h ⟨by assumption, k, h9⟩]
    · rw [show (9 - e).toNat = 0 by omega]; rfl
def rawM (m : Int) : Int := pickR m 1999999999999999 - 999999999999999
def rawE (e : Int) : Int := pickR e 19 - 9
theorem rawM_range (m : Int) : -999999999999999 ≤ rawM m ∧ rawM m ≤ 999999999999999 := by have := pickR_range (c := m) (n := 1999999999999999) (by omega); unfold rawM; omega
theorem rawE_range (m : Int) : -9 ≤ rawE m ∧ rawE m ≤ 9 := by have := pickR_range (c := m) (n := 19) (by omega); unfold rawE; omega
def decOfR (m e : Int) : Int × Int := if qzz m e = true then (m, e) else qzw (rawM m) (rawE e)
theorem trimD_ne : ∀ (n : Nat) (m e : Int), m ≠ 0 → (trimD n m e).1 ≠ 0
  | 0, m, e, h => h
  | n + 1, m, e, h => by
    rw [trimD]
    split
    · rename_i hc
      have := tmod_split hc
      exact trimD_ne n _ _ (by omega)
    · exact h
theorem decOf_zero {m e : Int} (c1 : ¬ qzz m e = true) (c2 : (trimL (rawM m) (rawE e)).1 = 0) : AV.agg [AV.int .i64 (trimL (rawM m) (rawE e)).1, AV.int .i64 0] = AV.agg [AV.int .i64 (decOfR m e).1, AV.int .i64 (decOfR m e).2] := by
  have : rawM m = 0 := by
    rcases Int.lt_trichotomy (rawM m) 0 with g | g | g
    · have := trimD_ne (9 - rawE e).toNat (rawM m) (rawE e) (by omega)
      unfold trimL at c2; rw [if_neg (by omega)] at c2; exact absurd c2 this
    · exact g
    · have := trimD_ne (9 - rawE e).toNat (rawM m) (rawE e) (by omega)
      unfold trimL at c2; rw [if_neg (by omega)] at c2; exact absurd c2 this
  rw [c2]
  simp [decOfR, c1, qzw, this]
theorem decOf_more {m e : Int} (c1 : ¬ qzz m e = true) (c2 : ¬ (trimL (rawM m) (rawE e)).1 = 0) : AV.agg [AV.int .i64 (trimL (rawM m) (rawE e)).1, AV.int .i64 (trimL (rawM m) (rawE e)).2] = AV.agg [AV.int .i64 (decOfR m e).1, AV.int .i64 (decOfR m e).2] := by
  have : rawM m ≠ 0 := fun h => c2 (by simp [trimL, h])
  simp [decOfR, c1, qzw, trimL, this]
def decOf_inv (am ae m e : Int) : AState :=
  ⟨([none, sP 0 0, sP 1 0, sI m, sI e] ++ nn 31), [some (jC [jI am, jI ae] 23), some (jC [jI 0, jI 0] 23)]⟩
theorem decOf_round (am ae m e : Int) (hm : -999999999999999 ≤ m ∧ m ≤ 999999999999999) (he : -9 ≤ e ∧ e ≤ 9) (h0 : m ≠ 0) (h1 : m.tmod 10 = 0) (h2 : e < 9) : Tri Try.prog (loopN (qzx Try.f18) 0) (decOf_inv am ae m e) .normal (decOf_inv am ae (m.tdiv 10) (e + 1)) := by
  exact qxz [rG [hhB 1 true, hhB 5 true, hhB 9 true], rG [hhI 1 (m.tdiv 10)], rG [hhI 1 (e + 1)]]
    (oA (oS (neT h0)) <| oA (oS (show (10 : Int) ≠ 0 from by decide)) <| oA (oS (eqT h1)) <| oA (oS (bT h2)) <| oA (oS (show (10 : Int) ≠ 0 from by decide)) <| oA (oS (show AV.int .i64 (IntKind.i64.wrap (m.tdiv 10)) = jI (m.tdiv 10) from tdivI (by omega))) <| oWs (e + 1) (by omega))
    (oA (oR [jP 0 0, jP 1 0, jI (m.tdiv 10), jI (e + 1)]) <| oQ [jC [jI am, jI ae] 23, jC [jI 0, jI 0] 23]) (by kernel_rfl)
theorem decOf_last (am ae m e : Int) (hm : -999999999999999 ≤ m ∧ m ≤ 999999999999999) (he : -9 ≤ e ∧ e ≤ 9) (h : ¬ (m ≠ 0 ∧ m.tmod 10 = 0 ∧ e < 9)) : Tri Try.prog (loopN (qzx Try.f18) 0) (decOf_inv am ae m e) (.exit 0) (decOf_inv am ae m e) := by
  by_cases c1 : m = 0
  · exact qxz [rG [hhB 1 false]]
      (oS (neF c1))
      (oA (oR [jP 0 0, jP 1 0, jI m, jI e]) <| oQ [jC [jI am, jI ae] 23, jC [jI 0, jI 0] 23]) (by kernel_rfl)
  · have o1 := oA (oS (neT c1)) <| oS (show (10 : Int) ≠ 0 from by decide)
    by_cases c2 : (m.tmod 10) = 0
    · by_cases c3 : e < 9
      · exact absurd ⟨‹_›, ‹_›, ‹_›⟩ h
      · exact qxz [rG [hhB 1 true, hhB 5 true, hhB 9 false]]
          (oA o1 <| oA (oS (eqT c2)) <| oS (bF c3))
          (oA (oR [jP 0 0, jP 1 0, jI m, jI e]) <| oQ [jC [jI am, jI ae] 23, jC [jI 0, jI 0] 23]) (by kernel_rfl)
    · exact qxz [rG [hhB 1 true, hhB 5 false]]
        (oA o1 <| oS (eqF c2))
        (oA (oR [jP 0 0, jP 1 0, jI m, jI e]) <| oQ [jC [jI am, jI ae] 23, jC [jI 0, jI 0] 23]) (by kernel_rfl)
theorem decOf_loop (am ae : Int) (m0 e0 : Int) (hm : -999999999999999 ≤ m0 ∧ m0 ≤ 999999999999999) (he : -9 ≤ e0 ∧ e0 ≤ 9) : Tri Try.prog (.loop (loopN (qzx Try.f18) 0)) (decOf_inv am ae m0 e0) (.exit 0) (decOf_inv am ae (trimL m0 e0).1 (trimL m0 e0).2) := by
  refine tri_loop (ι := {p : Int × Int // (-999999999999999 ≤ p.1 ∧ p.1 ≤ 999999999999999) ∧ (-9 ≤ p.2 ∧ p.2 ≤ 9) ∧ trimL p.1 p.2 = trimL m0 e0}) (fun i => decOf_inv am ae i.1.1 i.1.2) (fun i => (9 - i.1.2).toNat) (ne_normal_exit 0) ?_ ⟨(m0, e0), hm, he, rfl⟩
  rintro ⟨⟨m, e⟩, h1, h2, h3⟩
  simp only at h1 h2 h3
  by_cases hc : m ≠ 0 ∧ m.tmod 10 = 0 ∧ e < 9
  · have := tmod_split hc.2.1
    exact .inl ⟨⟨(m.tdiv 10, e + 1), by simp only; omega, by simp only; omega, by rw [← h3]; exact (trimL_step hc.1 hc.2.1 hc.2.2).symm⟩, by simp only; omega, decOf_round am ae m e h1 h2 hc.1 hc.2.1 hc.2.2⟩
  · have hx : decOf_inv am ae m e = decOf_inv am ae (trimL m0 e0).1 (trimL m0 e0).2 := by rw [← h3, trimL_last hc]
    exact .inr (Eq.subst (motive := fun s => Tri _ _ (decOf_inv am ae m e) (.exit 0) s) hx (decOf_last am ae m e h1 h2 hc))
theorem decOf_meets (am ae : Int) (ham : -9223372036854775808 ≤ am ∧ am < 9223372036854775808) (hae : -9223372036854775808 ≤ ae ∧ ae < 9223372036854775808) : Meets Try.prog 18 [jA [jI am, jI ae]] [] (jA [jI ((decOfR am ae).1), jI ((decOfR am ae).2)]) [] := by
  have hp := pickR_range (c := am) (n := 1999999999999999) (by omega)
  have hq := pickR_range (c := ae) (n := 19) (by omega)
  have o1 := oA (oLw ([jI am, jI ae]) (rfl)) <| oC (reright_meets am ae) rfl
  let q1 : List Orc := [rG [hhN 0 0, hhN 1 1]]
  by_cases c1 : qzz am ae = true
  · exact qzy (fn := Try.f18) 2 (q1 ++ [rG [hhV 0 (jA [jI am, jI ae]), hhMB 1 (reright_meets am ae) true], rG [hhV 0 (jA [jI am, jI ae]), (1, {obj := some [jC [jI am, jI ae] 23]})]]) [{val := some (jA [jI am, jI ae])}] Try.func18 (by kernel_rfl) Try.call18
      (oA o1 <| oA (oS (boolT c1)) <| oA (oLw ([jI am, jI ae]) (rfl)) <| oSw ([jI am, jI ae]) ([jI 0, jI 0]) 23 (rfl) (rfl))
      (oA (oLw ([jI am, jI ae]) (rfl)) <| oA (oS (show jA [jI am, jI ae] = jA [jI ((decOfR am ae).1), jI ((decOfR am ae).2)] from by simp [decOfR, *])) <| oV (D := (fun n => decide (0 ≤ n))) (jA [jI ((decOfR am ae).1), jI ((decOfR am ae).2)]) rfl) (by kernel_rfl)
  · have o2 := oA (oS (boolF c1)) <| oA (oLf ([jI am, jI ae]) (0) (jI am) (rfl)) <| oA (oC (pick_meets am 1999999999999999 (by omega) (by omega)) rfl) <| oA (oWs ((pickR am 1999999999999999) - 999999999999999) (by omega)) <| oA (oLf ([jI am, jI ae]) (1) (jI ae) (rfl)) <| oA (oC (pick_meets ae 19 (by omega) (by omega)) rfl) <| oA (oWs ((pickR ae 19) - 9) (by omega)) <| oA (oR [jP 0 0, jP 1 0, jI ((pickR am 1999999999999999) - 999999999999999), jI ((pickR ae 19) - 9)]) <| oA (oQ [jC [jI am, jI ae] 23, jC [jI 0, jI 0] 23]) <| oS (show Tri Try.prog (.loop (loopN (qzx Try.f18) 0)) (⟨([none, sP 0 0, sP 1 0, sI (rawM am), sI (rawE ae)] ++ nn 31), [some (jC [jI am, jI ae] 23), some (jC [jI 0, jI 0] 23)]⟩) (.exit 0) (⟨([none, sP 0 0, sP 1 0, sI ((trimL (rawM am) (rawE ae)).1), sI ((trimL (rawM am) (rawE ae)).2)] ++ nn 31), [some (jC [jI am, jI ae] 23), some (jC [jI 0, jI 0] 23)]⟩) from decOf_loop am ae (rawM am) (rawE ae) (rawM_range am) (rawE_range ae))
    let q2 : List Orc := [rG [hhV 0 (jA [jI am, jI ae]), hhMB 1 (reright_meets am ae) false], rG [hhI 1 am, hhM 2 (pick_meets am 1999999999999999 (by omega) (by omega)), hhI 3 ((pickR am 1999999999999999) - 999999999999999)], rG [hhI 1 ae, hhM 2 (pick_meets ae 19 (by omega) (by omega)), hhI 3 ((pickR ae 19) - 9)], .loop (⟨([none, sP 0 0, sP 1 0, sI (rawM am), sI (rawE ae)] ++ nn 31), [some (jC [jI am, jI ae] 23), some (jC [jI 0, jI 0] 23)]⟩) (.exit 0) (⟨([none, sP 0 0, sP 1 0, sI ((trimL (rawM am) (rawE ae)).1), sI ((trimL (rawM am) (rawE ae)).2)] ++ nn 31), [some (jC [jI am, jI ae] 23), some (jC [jI 0, jI 0] 23)]⟩)]
    by_cases c2 : (trimL (rawM am) (rawE ae)).1 = 0
    · exact qzy (fn := Try.f18) 2 (q1 ++ (q2 ++ [rG [hhB 1 true], rG [], rG [hhV 2 (jA [jI ((trimL (rawM am) (rawE ae)).1), jI 0]), (3, {obj := some [jC [jI ((trimL (rawM am) (rawE ae)).1), jI 0] 23]})]])) [{val := some (jA [jI ((trimL (rawM am) (rawE ae)).1), jI 0])}] Try.func18 (by kernel_rfl) Try.call18
        (oA o1 <| oA o2 <| oA (oS (eqT c2)) <| oA (oS (show ([jI ((trimL (rawM am) (rawE ae)).1)] : List AV).length = 1 from rfl)) <| oA (oS (show 0 + 1 ≤ ([jI 0, jI 0] : List AV).length from Nat.le_of_ble_eq_true (by kernel_rfl))) <| oA (oS (show ([jI 0] : List AV).length = 1 from rfl)) <| oA (oS (show 1 + 1 ≤ (List.take 0 [jI 0, jI 0] ++ [jI ((trimL (rawM am) (rawE ae)).1)] ++ List.drop 1 [jI 0, jI 0] : List AV).length from Nat.le_of_ble_eq_true (by kernel_rfl))) <| oA (oS (show AV.agg (List.take 1 (List.take 0 [jI 0, jI 0] ++ [jI ((trimL (rawM am) (rawE ae)).1)] ++ List.drop 1 [jI 0, jI 0]) ++ [jI 0] ++ List.drop 2 (List.take 0 [jI 0, jI 0] ++ [jI ((trimL (rawM am) (rawE ae)).1)] ++ List.drop 1 [jI 0, jI 0])) = jA [jI ((trimL (rawM am) (rawE ae)).1), jI 0] from by kernel_rfl)) <| oSw ([jI ((trimL (rawM am) (rawE ae)).1), jI 0]) ([jI 0, jI 0]) 23 (rfl) (rfl))
        (oA (oLw ([jI ((trimL (rawM am) (rawE ae)).1), jI 0]) (rfl)) <| oA (oS (show jA [jI ((trimL (rawM am) (rawE ae)).1), jI 0] = jA [jI ((decOfR am ae).1), jI ((decOfR am ae).2)] from decOf_zero c1 c2)) <| oV (D := (fun n => decide (0 ≤ n))) (jA [jI ((decOfR am ae).1), jI ((decOfR am ae).2)]) rfl) (by kernel_rfl)
    · exact qzy (fn := Try.f18) 2 (q1 ++ (q2 ++ [rG [hhB 1 false], rG [hhV 2 (jA [jI ((trimL (rawM am) (rawE ae)).1), jI ((trimL (rawM am) (rawE ae)).2)]), (3, {obj := some [jC [jI ((trimL (rawM am) (rawE ae)).1), jI ((trimL (rawM am) (rawE ae)).2)] 23]})]])) [{val := some (jA [jI ((trimL (rawM am) (rawE ae)).1), jI ((trimL (rawM am) (rawE ae)).2)])}] Try.func18 (by kernel_rfl) Try.call18
        (oA o1 <| oA o2 <| oA (oS (eqF c2)) <| oA (oS (show ([jI ((trimL (rawM am) (rawE ae)).1)] : List AV).length = 1 from rfl)) <| oA (oS (show 0 + 1 ≤ ([jI 0, jI 0] : List AV).length from Nat.le_of_ble_eq_true (by kernel_rfl))) <| oA (oS (show ([jI ((trimL (rawM am) (rawE ae)).2)] : List AV).length = 1 from rfl)) <| oA (oS (show 1 + 1 ≤ (List.take 0 [jI 0, jI 0] ++ [jI ((trimL (rawM am) (rawE ae)).1)] ++ List.drop 1 [jI 0, jI 0] : List AV).length from Nat.le_of_ble_eq_true (by kernel_rfl))) <| oA (oS (show AV.agg (List.take 1 (List.take 0 [jI 0, jI 0] ++ [jI ((trimL (rawM am) (rawE ae)).1)] ++ List.drop 1 [jI 0, jI 0]) ++ [jI ((trimL (rawM am) (rawE ae)).2)] ++ List.drop 2 (List.take 0 [jI 0, jI 0] ++ [jI ((trimL (rawM am) (rawE ae)).1)] ++ List.drop 1 [jI 0, jI 0])) = jA [jI ((trimL (rawM am) (rawE ae)).1), jI ((trimL (rawM am) (rawE ae)).2)] from by kernel_rfl)) <| oSw ([jI ((trimL (rawM am) (rawE ae)).1), jI ((trimL (rawM am) (rawE ae)).2)]) ([jI 0, jI 0]) 23 (rfl) (rfl))
        (oA (oLw ([jI ((trimL (rawM am) (rawE ae)).1), jI ((trimL (rawM am) (rawE ae)).2)]) (rfl)) <| oA (oS (show jA [jI ((trimL (rawM am) (rawE ae)).1), jI ((trimL (rawM am) (rawE ae)).2)] = jA [jI ((decOfR am ae).1), jI ((decOfR am ae).2)] from decOf_more c1 c2)) <| oV (D := (fun n => decide (0 ≤ n))) (jA [jI ((decOfR am ae).1), jI ((decOfR am ae).2)]) rfl) (by kernel_rfl)
theorem host : ∀ (f : Nat) (fn : Func), Try.prog.funcs[f]? = some fn → (fn.name == "runtime.NumGoroutine") = false := by
  have h : (Try.prog.funcs.all fun fn => !(fn.name == "runtime.NumGoroutine")) = true := by kernel_rfl
  intro f fn hf
  have := Array.all_eq_true'.1 h fn (Array.mem_of_getElem? hf)
  simpa using this
def Comes (T : Tab) (lv : FuncId → Lv) (f : FuncId) (args : List AV) (pre : List PObj) (x : Ans) : Prop :=
  ent (R := AV × List PObj) Try.prog T lv 64 18446744073709551616 30 f args pre pure2 = x.run pure2
theorem ans_comes {T : Tab} {lv : FuncId → Lv} {f : FuncId} {args : List AV} {pre : List PObj} {x : Ans} (hT : TabOK Try.prog T) (h : Comes T lv f args pre x) (hL : LvOK Try.prog lv := by exact nolv_ok) : AnsOK Try.prog f args pre x :=
  ans_of x fun res post k => meets_ent hT host (h.trans k) hL
theorem of_run {f : FuncId} {args : List AV} {pre : List PObj} {x y : Ans} (h : AnsOK Try.prog f args pre x) (e : ∀ r, y.run pure2 = some r → x.run pure2 = some r) : AnsOK Try.prog f args pre y :=
  ans_of y fun res post k => by
    obtain ⟨a, b, h1, h2⟩ := Ans.sound x h (e _ k)
    cases h2; exact h1
theorem bcT {α : Type} {b : Bool} {x y : α} (h : b = true) : bcond b x y = x := by rw [h]; rfl
theorem bcF {α : Type} {b : Bool} {x y : α} (h : b = false) : bcond b x y = y := by rw [h]; rfl
def inI (a : Int) : Bool := decide (-9223372036854775808 ≤ a ∧ a < 9223372036854775808)
theorem inI_iff {a : Int} : inI a = true ↔ -9223372036854775808 ≤ a ∧ a < 9223372036854775808 := by simp [inI]
def e2 (g : Int → Int → Int → Int → AV) : Ent := fun args pre => match args, pre with
  | [.agg [.int .i64 a, .int .i64 b], .agg [.int .i64 c, .int .i64 d]], [] => .ret (g a b c d) []
  | _, _ => .fail
theorem e2_ok {f : FuncId} {g : Int → Int → Int → Int → AV} (h : ∀ a b c d, Meets Try.prog f [.agg [.int .i64 a, .int .i64 b], .agg [.int .i64 c, .int .i64 d]] [] (g a b c d) []) : EntOK Try.prog f (e2 g) := fun args pre => by
  unfold e2; split
  · exact h _ _ _ _
  · trivial
def e1 (g : Int → Int → AV) : Ent := fun args pre => match args, pre with
  | [.agg [.int .i64 a, .int .i64 b]], [] => .ret (g a b) []
  | _, _ => .fail
theorem e1_ok {f : FuncId} {g : Int → Int → AV} (h : ∀ a b, Meets Try.prog f [.agg [.int .i64 a, .int .i64 b]] [] (g a b) []) : EntOK Try.prog f (e1 g) := fun args pre => by
  unfold e1; split
  · exact h _ _
  · trivial
def e1r (g : Int → Int → AV) : Ent := fun args pre => match args, pre with
  | [.agg [.int .i64 a, .int .i64 b]], [] => .chk (inI a && inI b) (.ret (g a b) [])
  | _, _ => .fail
theorem e1r_ok {f : FuncId} {g : Int → Int → AV} (h : ∀ a b, inI a = true → inI b = true → Meets Try.prog f [.agg [.int .i64 a, .int .i64 b]] [] (g a b) []) : EntOK Try.prog f (e1r g) := fun args pre => by
  unfold e1r; split
  · refine ⟨fun hb => ?_, fun _ => trivial⟩
    rw [Bool.and_eq_true] at hb
    exact h _ _ hb.1 hb.2
  · trivial
def e1i (g : Int → Int → Int → AV) : Ent := fun args pre => match args, pre with
  | [.agg [.int .i64 a, .int .i64 b], .int .i64 c], [] => .chk (inI c) (.ret (g a b c) [])
  | _, _ => .fail
theorem e1i_ok {f : FuncId} {g : Int → Int → Int → AV} (h : ∀ a b c, inI c = true → Meets Try.prog f [.agg [.int .i64 a, .int .i64 b], .int .i64 c] [] (g a b c) []) : EntOK Try.prog f (e1i g) := fun args pre => by
  unfold e1i; split
  · exact ⟨fun hb => h _ _ _ hb, fun _ => trivial⟩
  · trivial
def ei (g : Int → AV) : Ent := fun args pre => match args, pre with
  | [.int .i64 c], [] => .chk (inI c && decide (c ≠ -9223372036854775808)) (.ret (g c) [])
  | _, _ => .fail
theorem ei_ok {f : FuncId} {g : Int → AV} (h : ∀ c, -9223372036854775808 < c ∧ c < 9223372036854775808 → Meets Try.prog f [.int .i64 c] [] (g c) []) : EntOK Try.prog f (ei g) := fun args pre => by
  unfold ei; split
  · refine ⟨fun hb => h _ ?_, fun _ => trivial⟩
    rw [Bool.and_eq_true, inI_iff, decide_eq_true_eq] at hb
    omega
  · trivial
def ePick : Ent := fun args pre => match args, pre with
  | [.int .i64 c, .int .i64 n], [] => .chk (inI c && decide (0 < n)) (.ret (.int .i64 (pickR c n)) [])
  | _, _ => .fail
theorem ePick_ok : EntOK Try.prog 19 ePick := fun args pre => by
  unfold ePick; split
  · refine ⟨fun hb => ?_, fun _ => trivial⟩
    rw [Bool.and_eq_true, inI_iff, decide_eq_true_eq] at hb
    exact pick_meets _ _ hb.1 hb.2
  · trivial
theorem round_any (a b k : Int) (h : inI k = true) : Meets Try.prog 28 [.agg [.int .i64 a, .int .i64 b], .int .i64 k] [] (R3 (roundR a b k)) [] :=
  round_meets a b k (inI_iff.1 h) (48 + k).toNat (40 - k).toNat (fun h => by omega) (fun h => by omega)
def tabE : Tab := [(83, eSame), (90, eIndexByte), (22, e2 fun a b c d => R3 (addR a b c d)), (23, e2 fun a b c d => R3 (mulR a b c d)), (24, e2 fun a b c d => R3 (subR a b c d)), (25, e2 fun a b c d => R3 (divR a b c d)),
  (27, e2 fun a b c d => .int .i64 (cmpR a b c d)), (30, e1 fun a b => .bool (qzz a b)), (26, e1 fun a b => .tuple [.int .i64 (floorR a b).1, .int .i64 (floorR a b).2]),
  (28, e1i fun a b k => R3 (roundR a b k)), (20, e1i fun a b n => R3 (powR a b n)), (15, ei fun n => R3 (ofR n)), (52, ei fun n => .int .i64 ((n.natAbs : Nat) : Int))]
theorem tabE_ok : TabOK Try.prog tabE :=
  .cons (eSame_ok Try.func83 (by kernel_rfl) (by kernel_rfl) (by kernel_rfl) (by kernel_rfl))
  (.cons (eIndexByte_ok Try.func90 (by kernel_rfl) (by kernel_rfl) (by kernel_rfl) (by kernel_rfl))
  (.cons (e2_ok add_meets) (.cons (e2_ok mul_meets) (.cons (e2_ok sub_meets) (.cons (e2_ok div_meets) (.cons (e2_ok cmp_meets) (.cons (e1_ok qyt) (.cons (e1_ok floor_meets)
  (.cons (e1i_ok round_any) (.cons (e1i_ok fun a b n h => power_meets a b n (inI_iff.1 h)) (.cons (ei_ok of_meets) (.cons (ei_ok size_meets) .nil))))))))))))
end Go.Proofs.Ytmgiefeggkikcaa
namespace Go.Proofs.Ytmgiefeggkikcaa
open Go Sx Rf Dc
def stmtN (n : Nat) (c : Code) : Code := match restC n c with | .seq a _ => a | c => c
def loopIn (c : Code) : Code := (loopBodies c).headD .skip
abbrev OX := Option (Ex × PState)
def obD (am ae : Int) : Option PObj := some (.raw (.cells [.int .i64 am, .int .i64 ae] 23))
def stT (am ae : Int) (l : List Int) (n : Nat) : PState := ⟨none :: some (.ptr 0 0) :: none :: none :: some (.vec 1 n) :: List.replicate 51 none, obD am ae :: some (.vecI .i64 l 3) :: List.replicate 64 none⟩
def stT2 (am ae : Int) (l : List Int) (n : Nat) (i : Int) : PState := ⟨none :: some (.ptr 0 0) :: none :: none :: some (.vec 1 n) :: some (.int .i64 i) :: List.replicate 50 none, obD am ae :: some (.vecI .i64 l 3) :: List.replicate 64 none⟩
def stT3 (l : List Int) (n : Nat) (f : Int) (s : List UInt8) (i : Int) : PState := ⟨none :: none :: none :: none :: some (.vec 0 n) :: some (.int .i64 f) :: some (.str s) :: some (.int .i64 i) :: List.replicate 48 none, some (.vecI .i64 l 3) :: List.replicate 64 none⟩
def stT4 (s : List UInt8) : PState := ⟨none :: none :: none :: none :: none :: none :: some (.str s) :: List.replicate 49 none, List.replicate 64 none⟩
abbrev kT : Nat → Bool := fun n => hasN [1, 4] n
abbrev kT2 : Nat → Bool := fun n => hasN [1, 4, 5] n
abbrev kT3 : Nat → Bool := fun n => hasN [4, 5, 6, 7] n
abbrev kT4 : Nat → Bool := fun n => hasN [6] n
theorem roundT1 (am ae : Int) (l : List Int) (n : Nat) : code (noH (R := Ex × PState)) Try.prog {} 0 64 18446744073709551616 (loopIn (stmtN 3 (qzx Try.f48))) (stT am ae l n) (endK 0 64 kT kT) =
    bcond (decide ((n : Int) ≤ 9)) (bcond (decide (l.length = n * 1) && roomB (n + 1) 8) (some (.normal, stT am ae (l ++ [0]) (n + 1))) none) (some (.exit 0, stT am ae l n)) := by kernel_rfl
theorem roundT2 (am ae : Int) (l : List Int) (n : Nat) (i : Int) : code (noH (R := Ex × PState)) Try.prog {} 0 64 18446744073709551616 (loopIn (stmtN 5 (qzx Try.f48))) (stT2 am ae l n i) (endK 0 64 kT2 kT2) =
    bcond (decide (i < 9)) (bcond (decide (0 ≤ i ∧ i < n)) (bcond (decide (i.toNat * 1 < l.length)) (bcond (l.getD (i.toNat * 1) 0 == 0) (some (.normal, stT2 am ae l n (IntKind.i64.wrap (i + 1)))) (some (.exit 2, stT2 am ae l n i))) none) none) (some (.exit 2, stT2 am ae l n i)) := by kernel_rfl
def chI (l : List Int) (i : Int) : Int := IntKind.u8.wrap (IntKind.i64.wrap (48 + l.getD (i.toNat * 1) 0))
def digT (l : List Int) (n : Nat) (f i : Int) (o : List UInt8) : OX :=
  bcond (decide (0 ≤ i ∧ i < n)) (bcond (decide (i.toNat * 1 < l.length)) (bcond (decide (0 ≤ chI l i ∧ chI l i < 256) && true && true && true) (bcond (decide (o.length + [toByte (chI l i)].length ≤ 9223372036854775807)) (some (.normal, stT3 l n f (o ++ [toByte (chI l i)]) (IntKind.i64.wrap (i - 1)))) none) none) none) none
theorem roundT3 (l : List Int) (n : Nat) (f i : Int) (s : List UInt8) : code (noH (R := Ex × PState)) Try.prog {} 0 64 18446744073709551616 (loopIn (stmtN 8 (qzx Try.f48))) (stT3 l n f s i) (endK 0 64 kT3 kT4) =
    bcond (decide (i ≥ f)) (bcond (i == 8) (bcond (decide (s.length + ([46] : List UInt8).length ≤ 9223372036854775807)) (digT l n f i (s ++ [46])) none) (digT l n f i s)) (some (.exit 4, stT4 s)) := by kernel_rfl
end Go.Proofs.Ytmgiefeggkikcaa
namespace Go.Proofs.Ytmgiefeggkikcaa
open Go Dc
def idx46 (s : List UInt8) : Int := Lib.indexByte s 46
theorem idx46_ge (s : List UInt8) : -1 ≤ idx46 s := Lib.indexByte_ge s 46
theorem idx46_lt : ∀ (s : List UInt8), idx46 s < s.length
  | [] => by simp [idx46, Lib.indexByte]
  | b :: s => by
    have ih := idx46_lt s
    have hg := idx46_ge s
    unfold idx46 at *
    rw [Lib.indexByte, List.length_cons]
    split
    · omega
    · split <;> omega
def qzv (s : List UInt8) : Bool := decide (s.head? = some 45)
def okDig (b : UInt8) : Prop := 48 ≤ b.toNat ∧ b.toNat ≤ 57
instance : DecidablePred okDig := fun b => inferInstanceAs (Decidable (48 ≤ b.toNat ∧ b.toNat ≤ 57))
def isDigs (s : List UInt8) : Bool := decide (s ≠ [] ∧ s.length ≤ 40 ∧ ∀ b ∈ s, okDig b)
def bytesD (s : List UInt8) : List Int := s.map fun b => (b.toNat : Int) - 48
def bodyS (s : List UInt8) : List UInt8 := if qzv s = true then s.drop 1 else s
def wholeS (b : List UInt8) : List UInt8 := if 0 ≤ idx46 b then b.take (idx46 b).toNat else b
def partS (b : List UInt8) : List UInt8 := if 0 ≤ idx46 b then b.drop ((idx46 b).toNat + 1) else []
theorem bytesD_length (s : List UInt8) : (bytesD s).length = s.length := by simp [bytesD]
theorem bytesD_dig {s : List UInt8} (h : ∀ b ∈ s, okDig b) : Dig (bytesD s) := by
  intro d hd
  obtain ⟨b, hb, rfl⟩ := List.mem_map.1 hd
  have := h b hb
  unfold okDig at this; omega
def wrV (w p : List UInt8) : Int := val (bytesD w) * 10 ^ 40 + val (bytesD p) * 10 ^ (40 - p.length)
def okW (s : List UInt8) : Bool := isDigs (wholeS (bodyS s)) && (!decide (0 ≤ idx46 (bodyS s)) || isDigs (partS (bodyS s)))
def wrS (s : List UInt8) : Int := wrV (wholeS (bodyS s)) (partS (bodyS s))
def figN : List UInt8 → Nat
  | [] => 0
  | b :: l => if okDig b then figN l + 1 else 0
theorem figN_le : ∀ l : List UInt8, figN l ≤ l.length
  | [] => Nat.le_refl _
  | b :: l => by
    have := figN_le l
    rw [figN, List.length_cons]; split <;> omega
theorem figN_app : ∀ (w r : List UInt8), (∀ b ∈ w, okDig b) → figN (w ++ r) = w.length + figN r
  | [], r, _ => by simp
  | b :: w, r, h => by
    rw [List.cons_append, figN, if_pos (h b (by simp)), figN_app w r (fun c hc => h c (by simp [hc])), List.length_cons]; omega
theorem figN_take : ∀ (l : List UInt8), ∀ b ∈ l.take (figN l), okDig b
  | [], b, h => by simp [figN] at h
  | c :: l, b, h => by
    rw [figN] at h
    split at h
    · rename_i hc
      rw [List.take_succ_cons, List.mem_cons] at h
      rcases h with h | h
      · rw [h]; exact hc
      · exact figN_take l b h
    · simp at h
theorem figN_all {w : List UInt8} (h : ∀ b ∈ w, okDig b) : figN w = w.length := by
  have := figN_app w [] h; simpa [figN] using this
theorem dig_ne {b : UInt8} (h : okDig b) : (b == 46) = false := by
  rw [beq_eq_false_iff_ne]
  intro e; subst e
  exact absurd h (by decide)
theorem idx_digs : ∀ (w : List UInt8), (∀ b ∈ w, okDig b) → idx46 w = -1
  | [], _ => rfl
  | b :: w, h => by
    have ih := idx_digs w (fun c hc => h c (by simp [hc]))
    unfold idx46 at *
    rw [Lib.indexByte, dig_ne (h b (by simp)), ih]; rfl
theorem idx_point : ∀ (w p : List UInt8), (∀ b ∈ w, okDig b) → idx46 (w ++ 46 :: p) = w.length
  | [], p, _ => rfl
  | b :: w, p, h => by
    have ih := idx_point w p (fun c hc => h c (by simp [hc]))
    unfold idx46 at *
    rw [List.cons_append, Lib.indexByte, dig_ne (h b (by simp)), ih, List.length_cons]
    simp only [Bool.false_eq_true, if_false]
    rw [if_neg (by simp only [beq_iff_eq]; omega)]; push_cast; rfl
theorem idx_at : ∀ (b : List UInt8), 0 ≤ idx46 b → b = b.take (idx46 b).toNat ++ 46 :: b.drop ((idx46 b).toNat + 1)
  | [], h => by simp [idx46, Lib.indexByte] at h
  | c :: b, h => by
    have ih := idx_at b
    have hg := idx46_ge b
    unfold idx46 at *
    rw [Lib.indexByte] at h ⊢
    by_cases hc : (c == 46) = true
    · rw [if_pos hc]; simp [beq_iff_eq.1 hc]
    · rw [if_neg hc] at h ⊢
      by_cases hi : (Lib.indexByte b 46 == -1) = true
      · rw [if_pos hi] at h; omega
      · rw [if_neg hi] at h ⊢
        have hi : ¬ Lib.indexByte b 46 = -1 := by simpa using hi
        have := ih (by omega)
        rw [show (Lib.indexByte b 46 + 1).toNat = (Lib.indexByte b 46).toNat + 1 by omega, List.take_succ_cons, List.cons_append, List.drop_succ_cons, ← this]
def ptB (r : List UInt8) : Bool := r.head? == some 46
def frcN (b : List UInt8) : Nat := Sx.bcond (ptB (b.drop (figN b))) (figN (b.drop (figN b + 1))) 0
def endN (b : List UInt8) : Nat := figN b + Sx.bcond (ptB (b.drop (figN b))) (1 + frcN b) 0
def refOK (b : List UInt8) : Bool := !(ptB (b.drop (figN b)) && decide (frcN b = 0)) && decide (1 ≤ figN b ∧ figN b ≤ 40 ∧ frcN b ≤ 40 ∧ endN b = b.length)
theorem ref_point {w p : List UInt8} (hw : ∀ b ∈ w, okDig b) (hp : ∀ b ∈ p, okDig b) : figN (w ++ 46 :: p) = w.length ∧ ptB ((w ++ 46 :: p).drop w.length) = true ∧ frcN (w ++ 46 :: p) = p.length ∧ endN (w ++ 46 :: p) = (w ++ 46 :: p).length := by
  have h1 : figN (w ++ 46 :: p) = w.length := by
    rw [figN_app _ _ hw, figN, if_neg (by decide)]; rfl
  have h2 : ptB ((w ++ 46 :: p).drop w.length) = true := by rw [List.drop_left]; rfl
  have h3 : frcN (w ++ 46 :: p) = p.length := by
    unfold frcN
    rw [h1, h2]
    show figN _ = _
    rw [show w.length + 1 = (w ++ [46]).length by simp, show w ++ 46 :: p = (w ++ [46]) ++ p by simp, List.drop_left, figN_all hp]
  refine ⟨h1, h2, ?_, ?_⟩
  · exact h3
  · unfold endN; rw [h1, h2, h3]; simp [Sx.bcond]; omega
theorem ref_plain {w : List UInt8} (hw : ∀ b ∈ w, okDig b) : figN w = w.length ∧ ptB (w.drop w.length) = false ∧ frcN w = 0 ∧ endN w = w.length := by
  have h1 := figN_all hw
  have h2 : ptB (w.drop w.length) = false := by rw [List.drop_length]; rfl
  refine ⟨h1, h2, ?_, ?_⟩
  · unfold frcN; rw [h1, h2]; rfl
  · unfold endN; rw [h1, h2]; rfl
theorem isDigs_iff {s : List UInt8} : isDigs s = true ↔ s ≠ [] ∧ s.length ≤ 40 ∧ ∀ b ∈ s, okDig b := by simp only [isDigs, decide_eq_true_eq]
theorem whole_point {w p : List UInt8} (hw : ∀ b ∈ w, okDig b) : wholeS (w ++ 46 :: p) = w ∧ partS (w ++ 46 :: p) = p := by
  have h := idx_point w p hw
  unfold wholeS partS
  rw [h, if_pos (by omega), if_pos (by omega), show ((w.length : Int)).toNat = w.length by omega]
  exact ⟨List.take_left, by rw [show w.length + 1 = (w ++ [46]).length by simp, show w ++ 46 :: p = (w ++ [46]) ++ p by simp, List.drop_left]⟩
theorem whole_plain {w : List UInt8} (hw : ∀ b ∈ w, okDig b) : wholeS w = w ∧ partS w = [] ∧ idx46 w = -1 := by
  have h := idx_digs w hw
  unfold wholeS partS
  rw [h, if_neg (by omega), if_neg (by omega)]
  exact ⟨rfl, rfl, rfl⟩
theorem text_forms {b : List UInt8} (h : refOK b = true) : (isDigs b = true) ∨ ∃ w p, b = w ++ 46 :: p ∧ isDigs w = true ∧ isDigs p = true := by
  unfold refOK at h
  simp only [Bool.and_eq_true, Bool.not_eq_true', Bool.and_eq_false_iff, decide_eq_true_eq, decide_eq_false_iff_not] at h
  obtain ⟨h1, h2, h3, h4, h5⟩ := h
  have ht := figN_take b
  have hs : b = b.take (figN b) ++ b.drop (figN b) := (List.take_append_drop _ _).symm
  have hl := figN_le b
  have hd : (b.drop (figN b)).length = b.length - figN b := List.length_drop
  cases hr : b.drop (figN b) with
  | nil =>
    left
    rw [hr, List.append_nil] at hs
    rw [hr] at hd
    simp at hd
    have e : figN b = b.length := by omega
    rw [← hs] at ht
    refine isDigs_iff.2 ⟨?_, by omega, ht⟩
    intro e0; rw [e0] at h2; simp [figN] at h2
  | cons c r =>
    have hp : ptB (b.drop (figN b)) = (c == 46) := by
      rw [hr]; unfold ptB; simp
    cases hc : c == 46 with
    | false =>
      exfalso
      unfold endN at h5
      rw [hp, hc] at h5
      simp only [Sx.bcond] at h5
      rw [hr, List.length_cons] at hd
      omega
    | true =>
      right
      have hc' : c = 46 := beq_iff_eq.1 hc
      subst hc'
      have hdr : b.drop (figN b + 1) = r := by
        rw [← List.drop_drop, hr]; rfl
      have hf : frcN b = figN r := by unfold frcN; rw [hp, hc, hdr]; rfl
      unfold endN at h5
      rw [hp, hc] at h5
      simp only [Sx.bcond] at h5
      rw [hr, List.length_cons] at hd
      have hm : 1 ≤ frcN b := by
        rcases h1 with h1 | h1
        · rw [hp, hc] at h1; cases h1
        · omega
      have hd' : r.length + 1 = b.length - figN b := hd
      have h5' : figN b + (1 + frcN b) = b.length := h5
      have hrl : figN r = r.length := by omega
      have hrt := figN_take r
      rw [hrl, List.take_length] at hrt
      refine ⟨b.take (figN b), r, by rw [← hr]; exact hs, isDigs_iff.2 ⟨?_, by rw [List.length_take]; omega, ht⟩, isDigs_iff.2 ⟨?_, by omega, hrt⟩⟩
      · intro e0
        have := congrArg List.length e0
        rw [List.length_take, List.length_nil] at this
        omega
      · intro e0; rw [e0] at hrl hf; simp [figN] at hf; omega
theorem refOK_eq (b : List UInt8) : refOK b = (isDigs (wholeS b) && (!decide (0 ≤ idx46 b) || isDigs (partS b))) := by
  rw [Bool.eq_iff_iff]
  constructor
  · intro h
    rcases text_forms h with h | ⟨w, p, rfl, h1, h2⟩
    · obtain ⟨e1, e2, e3⟩ := whole_plain (isDigs_iff.1 h).2.2
      rw [e1, e3, h]; rfl
    · obtain ⟨e1, e2⟩ := whole_point (p := p) (isDigs_iff.1 h1).2.2
      rw [e1, e2, h1, h2]; simp
  · intro h
    rw [Bool.and_eq_true] at h
    obtain ⟨h1, h2⟩ := h
    unfold refOK
    by_cases hi : 0 ≤ idx46 b
    · rw [decide_eq_true hi] at h2
      simp only [Bool.not_true, Bool.false_or] at h2
      have hb := idx_at b hi
      have hw : wholeS b = b.take (idx46 b).toNat := by unfold wholeS; rw [if_pos hi]
      have hp : partS b = b.drop ((idx46 b).toNat + 1) := by unfold partS; rw [if_pos hi]
      rw [← hw, ← hp] at hb
      obtain ⟨w1, w2, w3⟩ := isDigs_iff.1 h1
      obtain ⟨p1, p2, p3⟩ := isDigs_iff.1 h2
      generalize wholeS b = w at *
      generalize partS b = p at *
      subst hb
      obtain ⟨r1, r2, r3, r4⟩ := ref_point w3 p3
      have w0 : 1 ≤ w.length := by cases w <;> simp at w1 ⊢
      have p0 : 1 ≤ p.length := by cases p <;> simp at p1 ⊢
      rw [r1, r2, r3, r4, decide_eq_false (by omega), decide_eq_true ⟨w0, w2, p2, rfl⟩]; rfl
    · have hw : wholeS b = b := by unfold wholeS; rw [if_neg hi]
      rw [hw] at h1
      obtain ⟨w1, w2, w3⟩ := isDigs_iff.1 h1
      obtain ⟨r1, r2, r3, r4⟩ := ref_plain w3
      have w0 : 1 ≤ b.length := by cases b <;> simp at w1 ⊢
      rw [r1, r2, r3, r4]; simp [w2]; omega
def flS (b : List UInt8) : List UInt8 := b.filter fun c => !(c == 46)
theorem fl_digs {w : List UInt8} (h : ∀ b ∈ w, okDig b) : flS w = w := by
  unfold flS
  rw [List.filter_eq_self]
  intro c hc; rw [dig_ne (h c hc)]; rfl
theorem fl_point {w p : List UInt8} (hw : ∀ b ∈ w, okDig b) (hp : ∀ b ∈ p, okDig b) : flS (w ++ 46 :: p) = w ++ p := by
  have h1 := fl_digs hw
  have h2 := fl_digs hp
  unfold flS at *
  rw [List.filter_append, List.filter_cons, h1, h2]; rfl
def rdN (b : List UInt8) : Nat := (val (bytesD (flS b))).toNat
theorem bytesD_app (a b : List UInt8) : bytesD (a ++ b) = bytesD a ++ bytesD b := by simp [bytesD]
theorem rd_spec {b : List UInt8} (h : refOK b = true) : ((rdN b : Nat) : Int) = val (bytesD (flS b)) ∧ wrV (wholeS b) (partS b) * 10 ^ frcN b = ((rdN b : Nat) : Int) * 10 ^ 40 ∧ rdN b < 10 ^ 80 ∧ frcN b ≤ 40 ∧ (flS b).length ≤ 80 ∧ Dig (bytesD (flS b)) ∧ (flS b).length = figN b + frcN b := by
  rcases text_forms h with h | ⟨w, p, rfl, h1, h2⟩
  · obtain ⟨w1, w2, w3⟩ := isDigs_iff.1 h
    obtain ⟨e1, e2, e3⟩ := whole_plain w3
    obtain ⟨r1, r2, r3, r4⟩ := ref_plain w3
    have hd := bytesD_dig w3
    have hv := val_bounds _ hd
    rw [bytesD_length] at hv
    have hn : ((rdN b : Nat) : Int) = val (bytesD b) := by unfold rdN; rw [fl_digs w3]; omega
    have hb : val (bytesD b) < 10 ^ 80 := Int.lt_of_lt_of_le hv.2 (pow_mono (by omega))
    rw [fl_digs w3]
    refine ⟨hn, ?_, ?_, by omega, by omega, hd, by omega⟩
    · rw [e1, e2, r3, hn]; unfold wrV; simp [bytesD, val]
    · rw [← hn] at hb; exact_mod_cast hb
  · obtain ⟨w1, w2, w3⟩ := isDigs_iff.1 h1
    obtain ⟨p1, p2, p3⟩ := isDigs_iff.1 h2
    obtain ⟨e1, e2⟩ := whole_point (p := p) w3
    obtain ⟨r1, r2, r3, r4⟩ := ref_point w3 p3
    have hd : Dig (bytesD (w ++ p)) := by rw [bytesD_app]; exact (bytesD_dig w3).append (bytesD_dig p3)
    have hv := val_bounds _ hd
    rw [bytesD_length, List.length_append] at hv
    have hn : ((rdN (w ++ 46 :: p) : Nat) : Int) = val (bytesD (w ++ p)) := by unfold rdN; rw [fl_point w3 p3]; omega
    have hb : val (bytesD (w ++ p)) < 10 ^ 80 := Int.lt_of_lt_of_le hv.2 (pow_mono (by omega))
    rw [fl_point w3 p3]
    refine ⟨hn, ?_, ?_, by omega, by rw [List.length_append]; omega, hd, by rw [List.length_append]; omega⟩
    · rw [e1, e2, r3, hn, bytesD_app, val_append, bytesD_length]
      unfold wrV
      rw [Int.add_mul, Int.add_mul, Int.mul_assoc, Int.mul_assoc, Int.mul_assoc, ← Int.pow_add, ← Int.pow_add, ← Int.pow_add, show 40 - p.length + p.length = 40 by omega, Nat.add_comm 40]
    · rw [← hn] at hb; exact_mod_cast hb
end Go.Proofs.Ytmgiefeggkikcaa
namespace Go.Proofs.Ytmgiefeggkikcaa
open Go Sx Dc
theorem figN_at : ∀ (l : List UInt8) (k : Nat), k < figN l → okDig (l.getD k 0)
  | [], k, h => by simp [figN] at h
  | b :: l, k, h => by
    rw [figN] at h
    split at h
    · rename_i hb
      cases k with
      | zero => exact hb
      | succ k => exact figN_at l k (by omega)
    · omega
theorem figN_stop : ∀ (l : List UInt8), figN l < l.length → ¬ okDig (l.getD (figN l) 0)
  | [], h => by simp at h
  | b :: l, h => by
    rw [figN] at h ⊢
    split
    · rename_i hb
      rw [if_pos hb, List.length_cons] at h
      exact figN_stop l (by omega)
    · rename_i hb; exact hb
def wr (a : Int) : Int := IntKind.i64.wrap a
def inS (s : List UInt8) (p : Int) : Bool := decide (0 ≤ p ∧ p.toNat < s.length)
def stF (s : List UInt8) (f k : Int) : PState := ⟨some (.str s) :: some (.int .i64 f) :: none :: none :: none :: some (.int .i64 k) :: List.replicate 25 none, List.replicate 64 none⟩
def stFx (k : Int) : PState := ⟨none :: none :: none :: none :: none :: some (.int .i64 k) :: List.replicate 25 none, List.replicate 64 none⟩
abbrev kF : Nat → Bool := fun n => hasN [0, 1, 5] n
abbrev kFx : Nat → Bool := fun n => hasN [5] n
theorem roundF (s : List UInt8) (f k : Int) : code (noH (R := Ex × PState)) Try.prog {} 0 64 18446744073709551616 (loopIn (stmtN 2 (qzx Try.f34))) (stF s f k) (endK 0 64 kF kFx) =
    bcond (decide (wr (f + k) < s.length)) (bcond (inS s (wr (f + k))) (bcond (decide (byteAt s (wr (f + k)).toNat ≥ 48)) (bcond (inS s (wr (f + k))) (bcond (decide (byteAt s (wr (f + k)).toNat ≤ 57)) (some (.normal, stF s f (wr (k + 1)))) (some (.exit 0, stFx k))) none) (some (.exit 0, stFx k))) none) (some (.exit 0, stFx k)) := by kernel_rfl
theorem loopF {s : List UInt8} {f : Nat} (hf : f ≤ s.length) (hs : s.length ≤ 1000) : Tri Try.prog (.loop (loopIn (stmtN 2 (qzx Try.f34)))) (stF s (f : Int) 0).toA (.exit 0) (stFx (figN (s.drop f) : Int)).toA 0 := by
  have hl := figN_le (s.drop f)
  rw [List.length_drop] at hl
  refine loop_rounds (ι := { k : Nat // k ≤ figN (s.drop f) }) (NF := 64) (m := 18446744073709551616) (lv := {}) noH_ok (fun x hx id e h1 h2 => by cases h2) kF kFx (fun k => stF s (f : Int) (k.1 : Int)) (fun k => s.length - k.1) (fun _ => (.exit 0, stFx (figN (s.drop f) : Int))) ?_ (fun _ => by simp) ⟨0, by omega⟩
  rintro ⟨k, hk⟩
  simp only
  rw [roundF]
  have hw : wr ((f : Int) + (k : Int)) = ((f + k : Nat) : Int) := by unfold wr; rw [i64_in (by omega) (by omega)]; push_cast; rfl
  rw [hw]
  have hb : byteAt s ((f + k : Nat) : Int).toNat = (((s.drop f).getD k 0).toNat : Int) := by
    unfold byteAt
    rw [Int.toNat_natCast]
    simp only [List.getD, List.getElem?_drop]
  by_cases c : k < figN (s.drop f)
  · have hd := figN_at _ _ c
    unfold okDig at hd
    have hi : inS s ((f + k : Nat) : Int) = true := decide_eq_true (by omega)
    rw [bcT (b := decide (_ < _)) (decide_eq_true (by omega)), bcT hi, bcT (b := decide (_ ≥ _)) (decide_eq_true (by rw [hb]; omega)), bcT hi, bcT (b := decide (_ ≤ _)) (decide_eq_true (by rw [hb]; omega))]
    refine .inl ⟨⟨k + 1, by omega⟩, by simp only; omega, trivial, ?_⟩
    rw [show wr ((k : Int) + 1) = ((k + 1 : Nat) : Int) from by unfold wr; rw [i64_in (by omega) (by omega)]; push_cast; rfl]
  · have e : k = figN (s.drop f) := by omega
    subst e
    by_cases c2 : f + figN (s.drop f) < s.length
    · have hd := figN_stop (s.drop f) (by rw [List.length_drop]; omega)
      unfold okDig at hd
      have hi : inS s ((f + figN (s.drop f) : Nat) : Int) = true := decide_eq_true (by omega)
      rw [bcT (b := decide (_ < _)) (decide_eq_true (by omega)), bcT hi]
      by_cases c3 : byteAt s ((f + figN (s.drop f) : Nat) : Int).toNat ≥ 48
      · rw [bcT (b := decide (_ ≥ _)) (decide_eq_true c3), bcT hi, bcF (b := decide (_ ≤ _)) (decide_eq_false (by rw [hb] at c3 ⊢; omega))]
        exact .inr rfl
      · rw [bcF (b := decide (_ ≥ _)) (decide_eq_false c3)]
        exact .inr rfl
    · rw [bcF (b := decide (_ < _)) (decide_eq_false (by omega))]
      exact .inr rfl
theorem partF1 (s : List UInt8) (f : Int) : runsC (noH (R := Ex × PState)) Try.prog {} 0 64 18446744073709551616 (endK 0 64 kF kF) 2 (qzx Try.f34) (startP 31 [.str s, .int .i64 f] [] 64) = some (.normal, stF s f 0) := by kernel_rfl
theorem partF2 (k : Int) : code (noH (R := AV × List PObj)) Try.prog {} 0 64 18446744073709551616 (restC 3 (qzx Try.f34)) (stFx k) (finP Try.prog Try.f34 0 [] pure2) = pure2 (.int .i64 k) [] := by kernel_rfl
theorem shapeF : restC 2 (qzx Try.f34) = .seq (.block 0 (.loop (loopIn (stmtN 2 (qzx Try.f34))))) (restC 3 (qzx Try.f34)) := by kernel_rfl
def eFig : Ent := fun args pre => match args, pre with
  | [.str s, .int .i64 f], [] => .chk (decide (0 ≤ f ∧ f.toNat ≤ s.length ∧ s.length ≤ 1000)) (.ret (.int .i64 (figN (s.drop f.toNat))) [])
  | _, _ => .fail
theorem fig_ok : EntOK Try.prog 34 eFig := fun args pre => by
  unfold eFig; split
  · rename_i s f
    refine ⟨fun hb => ?_, fun _ => trivial⟩
    obtain ⟨h1, h2, h3⟩ := of_decide_eq_true hb
    obtain ⟨f, rfl⟩ : ∃ n : Nat, f = (n : Int) := ⟨f.toNat, by omega⟩
    rw [Int.toNat_natCast] at h2 ⊢
    have hbody : Try.f34.body = some (qzx Try.f34) := by kernel_rfl
    have nl : ∀ c : Code, LoopsOK Try.prog {} ([] : List PObj).length c := fun c x hx id e h1 h2 => by cases h2
    obtain ⟨res, post, k1, k2⟩ := goes_meets (R := AV × List PObj) (NF := 64) (args := [.str s, .int .i64 (f : Int)]) (pre := []) (k := pure2) (r := (.int .i64 (figN (s.drop f) : Int), [])) host Try.func34 hbody
      (goes_runs (pre := []) noH_ok (nl _) (partF1 s f) shapeF (goes_tri (pre := []) (tri_block (loopF h2 h3)) (goes_code (pre := []) noH_ok (nl _) (partF2 _))))
    cases k2
    exact k1
  · trivial
def ob0 : Option PObj := some (.raw (.cells [.int .i64 0, .int .i64 0] 23))
def stR0 (s : List UInt8) (b : Bool) (fr m i : Int) : PState := ⟨some (.str s) :: none :: some (.ptr 0 0) :: none :: some (.bool b) :: some (.int .i64 fr) :: none :: none :: some (.int .i64 m) :: some .nilslice :: some (.int .i64 i) :: List.replicate 107 none, ob0 :: List.replicate 64 none⟩
def stR1 (s : List UInt8) (b : Bool) (fr m i : Int) (l : List Int) (q : Nat) : PState := ⟨some (.str s) :: none :: some (.ptr 0 0) :: none :: some (.bool b) :: some (.int .i64 fr) :: none :: none :: some (.int .i64 m) :: some (.vec 1 q) :: some (.int .i64 i) :: List.replicate 107 none, ob0 :: some (.vecI .i64 l 3) :: List.replicate 64 none⟩
def stR40 (b : Bool) (m : Int) : PState := ⟨none :: none :: some (.ptr 0 0) :: none :: some (.bool b) :: none :: none :: none :: some (.int .i64 m) :: some .nilslice :: List.replicate 108 none, ob0 :: List.replicate 64 none⟩
def stR4 (b : Bool) (m : Int) (l : List Int) (q : Nat) : PState := ⟨none :: none :: some (.ptr 0 0) :: none :: some (.bool b) :: none :: none :: none :: some (.int .i64 m) :: some (.vec 1 q) :: List.replicate 108 none, ob0 :: some (.vecI .i64 l 3) :: List.replicate 64 none⟩
abbrev kR : Nat → Bool := fun n => hasN [0, 2, 4, 5, 8, 9, 10] n
abbrev kR4 : Nat → Bool := fun n => hasN [2, 4, 8, 9] n
def dI (s : List UInt8) (i : Int) : Int := wr (IntKind.u8.wrap (byteAt s i.toNat - 48))
theorem roundR1 (s : List UInt8) (b : Bool) (fr m i : Int) (l : List Int) (q : Nat) : code (noH (R := Ex × PState)) Try.prog {} 0 64 18446744073709551616 (loopIn (stmtN 10 (qzx Try.f14))) (stR1 s b fr m i l q) (endK 0 64 kR kR4) =
    bcond (decide (i ≥ fr)) (bcond (inS s i) (bcond (byteAt s i.toNat != 46) (bcond (inS s i) (bcond (decide (l.length = q * 1) && roomB (q + 1) 8) (some (.normal, stR1 s b fr m (wr (i - 1)) (l ++ [dI s i]) (q + 1))) none) none) (some (.normal, stR1 s b fr m (wr (i - 1)) l q))) none) (some (.exit 0, stR4 b m l q)) := by kernel_rfl
theorem roundR0 (s : List UInt8) (b : Bool) (fr m i : Int) : code (noH (R := Ex × PState)) Try.prog {} 0 64 18446744073709551616 (loopIn (stmtN 10 (qzx Try.f14))) (stR0 s b fr m i) (endK 0 64 kR kR4) =
    bcond (decide (i ≥ fr)) (bcond (inS s i) (bcond (byteAt s i.toNat != 46) (bcond (inS s i) (some (.normal, stR1 s b fr m (wr (i - 1)) [dI s i] 1)) none) (some (.normal, stR0 s b fr m (wr (i - 1))))) none) (some (.exit 0, stR40 b m)) := by kernel_rfl
theorem text_bytes {b : List UInt8} (h : refOK b = true) : (∀ c ∈ b, okDig c ∨ c = 46) ∧ ∃ b' d, b = b' ++ [d] ∧ okDig d := by
  have last : ∀ {w : List UInt8}, w ≠ [] → (∀ c ∈ w, okDig c) → ∃ w' d, w = w' ++ [d] ∧ okDig d := fun {w} hw hd =>
    ⟨w.dropLast, w.getLast hw, (List.dropLast_concat_getLast hw).symm, hd _ (List.getLast_mem hw)⟩
  rcases text_forms h with h | ⟨w, p, rfl, h1, h2⟩
  · obtain ⟨w1, w2, w3⟩ := isDigs_iff.1 h
    exact ⟨fun c hc => .inl (w3 c hc), last w1 w3⟩
  · obtain ⟨w1, w2, w3⟩ := isDigs_iff.1 h1
    obtain ⟨p1, p2, p3⟩ := isDigs_iff.1 h2
    refine ⟨fun c hc => ?_, ?_⟩
    · rcases List.mem_append.1 hc with hc | hc
      · exact .inl (w3 c hc)
      · rcases List.mem_cons.1 hc with hc | hc
        · exact .inr hc
        · exact .inl (p3 c hc)
    · obtain ⟨p', d, e, hd⟩ := last p1 p3
      exact ⟨w ++ 46 :: p', d, by rw [e]; simp, hd⟩
abbrev dR (b : List UInt8) (j : Nat) : List Int := (bytesD (flS (b.drop j))).reverse
theorem dR_dig {b : List UInt8} {j : Nat} (h : j < b.length) (hd : okDig b[j]) : dR b j = dR b (j + 1) ++ [((b[j].toNat : Nat) : Int) - 48] ∧ (flS (b.drop j)).length = (flS (b.drop (j + 1))).length + 1 := by
  have e : flS (b.drop j) = b[j] :: flS (b.drop (j + 1)) := by
    rw [List.drop_eq_getElem_cons h]; unfold flS
    rw [List.filter_cons, dig_ne hd]; rfl
  unfold dR
  rw [e]
  exact ⟨by simp [bytesD], rfl⟩
theorem dR_pt {b : List UInt8} {j : Nat} (h : j < b.length) (hd : b[j] = 46) : flS (b.drop j) = flS (b.drop (j + 1)) := by
  rw [List.drop_eq_getElem_cons h, hd]; unfold flS
  rw [List.filter_cons]; rfl
def invR (s : List UInt8) (x : Bool) (fr : Nat) (m : Int) (j : Nat) : PState :=
  if j = s.length - fr then stR0 s x fr m ((fr : Int) + j - 1) else stR1 s x fr m ((fr : Int) + j - 1) (dR (s.drop fr) j) (flS ((s.drop fr).drop j)).length
theorem loopR {s : List UInt8} {fr : Nat} (x : Bool) (m : Int) (hf : fr ≤ s.length) (hs : s.length ≤ 1000) (hr : refOK (s.drop fr) = true) :
    Tri Try.prog (.loop (loopIn (stmtN 10 (qzx Try.f14)))) (stR0 s x (fr : Int) m ((s.length : Int) - 1)).toA (.exit 0) (stR4 x m (dR (s.drop fr) 0) (flS (s.drop fr)).length).toA 0 := by
  obtain ⟨hb, b', d, hlast, hdig⟩ := text_bytes hr
  have hlen : (s.drop fr).length = s.length - fr := List.length_drop
  have hpos : 1 ≤ s.length - fr := by rw [← hlen, hlast]; simp
  have key := loop_rounds (P := Try.prog) (ι := { j : Nat // j ≤ s.length - fr }) (NF := 64) (m := 18446744073709551616) (lv := {}) noH_ok (x := loopIn (stmtN 10 (qzx Try.f14))) (K := 0) (fun x hx id e h1 h2 => by cases h2) kR kR4 (fun j => invR s x fr m j.1) (fun j => j.1) (fun _ => (.exit 0, stR4 x m (dR (s.drop fr) 0) (flS (s.drop fr)).length)) ?_ (fun _ => by simp) ⟨s.length - fr, by omega⟩
  · simp only [invR, if_pos] at key
    rw [show (fr : Int) + ((s.length - fr : Nat) : Int) - 1 = (s.length : Int) - 1 by omega] at key
    exact key
  have byte : ∀ j, j < s.length - fr → inS s ((fr : Int) + ((j + 1 : Nat) : Int) - 1) = true ∧ byteAt s ((fr : Int) + ((j + 1 : Nat) : Int) - 1).toNat = (((s.drop fr).getD j 0).toNat : Int) := fun j hj => by
    have e : (fr : Int) + ((j + 1 : Nat) : Int) - 1 = ((fr + j : Nat) : Int) := by push_cast; omega
    rw [e]
    refine ⟨decide_eq_true (by omega), ?_⟩
    unfold byteAt
    rw [Int.toNat_natCast]
    simp only [List.getD, List.getElem?_drop]
  rintro ⟨j, hj⟩
  simp only
  have wi : ∀ k : Nat, k ≤ s.length - fr → wr ((fr : Int) + ((k + 1 : Nat) : Int) - 1 - 1) = (fr : Int) + (k : Int) - 1 := fun k hk => by unfold wr; rw [i64_in (by omega) (by omega)]; push_cast; omega
  cases j with
  | zero =>
    have e0 : invR s x fr m 0 = stR1 s x fr m ((fr : Int) + ((0 : Nat) : Int) - 1) (dR (s.drop fr) 0) (flS (s.drop fr)).length := by
      unfold invR; rw [if_neg (by omega)]; rfl
    rw [e0, roundR1, bcF (b := decide (_ ≥ _)) (decide_eq_false (by omega))]
    exact .inr rfl
  | succ j =>
    have hjl : j < (s.drop fr).length := by omega
    obtain ⟨b1, b2⟩ := byte j (by omega)
    have hg : (s.drop fr).getD j 0 = (s.drop fr)[j] := by rw [List.getD, List.getElem?_eq_getElem hjl]; rfl
    have en : invR s x fr m j = stR1 s x fr m ((fr : Int) + (j : Int) - 1) (dR (s.drop fr) j) (flS ((s.drop fr).drop j)).length := by
      unfold invR; rw [if_neg (by omega)]
    by_cases hlastj : j + 1 = s.length - fr
    ·
      have hd : okDig (s.drop fr)[j] := by
        have : (s.drop fr)[j] = d := by
          have hl2 : b'.length = j := by
            have := congrArg List.length hlast
            rw [hlen, List.length_append, List.length_singleton] at this; omega
          simp only [hlast]
          rw [List.getElem_append_right (by omega)]
          simp [hl2]
        rw [this]; exact hdig
      have hdo := hd
      unfold okDig at hdo
      have e1 : invR s x fr m (j + 1) = stR0 s x fr m ((fr : Int) + ((j + 1 : Nat) : Int) - 1) := by unfold invR; rw [if_pos hlastj]
      obtain ⟨d1, d2⟩ := dR_dig hjl hd
      have hnil : (s.drop fr).drop (j + 1) = [] := List.drop_eq_nil_of_le (by omega)
      rw [e1, roundR0, bcT (b := decide (_ ≥ _)) (decide_eq_true (by omega)), bcT b1, b2, hg, bcT (b := _ != _) (bne_iff_ne.2 (by omega)), bcT b1, wi j (by omega)]
      refine .inl ⟨⟨j, by omega⟩, by simp only; omega, trivial, ?_⟩
      rw [en, d1, d2]
      unfold dR
      rw [hnil]
      have : dI s ((fr : Int) + ((j + 1 : Nat) : Int) - 1) = (((s.drop fr)[j].toNat : Nat) : Int) - 48 := by
        unfold dI wr; rw [b2, hg, u8_in (by omega) (by omega), i64_in (by omega) (by omega)]
      rw [this]; rfl
    · have e1 : invR s x fr m (j + 1) = stR1 s x fr m ((fr : Int) + ((j + 1 : Nat) : Int) - 1) (dR (s.drop fr) (j + 1)) (flS ((s.drop fr).drop (j + 1))).length := by unfold invR; rw [if_neg hlastj]
      rw [e1, roundR1, bcT (b := decide (_ ≥ _)) (decide_eq_true (by omega)), bcT b1, b2, hg]
      rcases hb _ (List.getElem_mem hjl) with hd | hd
      · have hdo := hd
        unfold okDig at hdo
        obtain ⟨d1, d2⟩ := dR_dig hjl hd
        have hfl : (flS ((s.drop fr).drop (j + 1))).length ≤ 1000 := by
          have : (flS ((s.drop fr).drop (j + 1))).length ≤ ((s.drop fr).drop (j + 1)).length := List.length_filter_le _ _
          rw [List.length_drop, hlen] at this; omega
        rw [bcT (b := _ != _) (bne_iff_ne.2 (by omega)), bcT b1, bcT (b := decide _ && roomB _ 8) (by
          rw [decide_eq_true (by simp [dR, bytesD]), Bool.true_and]; unfold roomB; exact decide_eq_true (by omega)), wi j (by omega)]
        refine .inl ⟨⟨j, by omega⟩, by simp only; omega, trivial, ?_⟩
        have : dI s ((fr : Int) + ((j + 1 : Nat) : Int) - 1) = (((s.drop fr)[j].toNat : Nat) : Int) - 48 := by
          unfold dI wr; rw [b2, hg, u8_in (by omega) (by omega), i64_in (by omega) (by omega)]
        rw [en, d1, d2, this]
      · rw [bcF (b := _ != _) (by rw [hd]; rfl), wi j (by omega)]
        refine .inl ⟨⟨j, by omega⟩, by simp only; omega, trivial, ?_⟩
        rw [en]
        unfold dR
        rw [dR_pt hjl hd]
def sR1 (s : List UInt8) (b : Bool) (fr : Int) : PState := ⟨some (.str s) :: none :: some (.ptr 0 0) :: none :: some (.bool b) :: some (.int .i64 fr) :: List.replicate 112 none, ob0 :: List.replicate 64 none⟩
def sR2 (s : List UInt8) (b : Bool) (fr t m : Int) : PState := ⟨some (.str s) :: none :: some (.ptr 0 0) :: none :: some (.bool b) :: some (.int .i64 fr) :: none :: some (.int .i64 t) :: some (.int .i64 m) :: List.replicate 109 none, ob0 :: List.replicate 64 none⟩
def sR3 (s : List UInt8) (b : Bool) (fr t m : Int) : PState := ⟨some (.str s) :: none :: some (.ptr 0 0) :: none :: some (.bool b) :: some (.int .i64 fr) :: none :: some (.int .i64 t) :: some (.int .i64 m) :: some .nilslice :: List.replicate 108 none, ob0 :: List.replicate 64 none⟩
def finR (e : Int) : PState := ⟨none :: none :: some (.ptr 0 0) :: some (.int .i64 e) :: List.replicate 114 none, ob0 :: List.replicate 64 none⟩
abbrev kR1 : Nat → Bool := fun n => hasN [0, 2, 4, 5] n
abbrev kR2 : Nat → Bool := fun n => hasN [0, 2, 4, 5, 7, 8] n
abbrev kR3 : Nat → Bool := fun n => hasN [0, 2, 4, 5, 7, 8, 9] n
abbrev kRx : Nat → Bool := fun n => hasN [2, 3] n
theorem partR1 (s : List UInt8) : runsC (noH (R := Ex × PState)) Try.prog {} 0 64 18446744073709551616 (endK 0 64 kR1 kR1) 4 (qzx Try.f14) (startP 118 [.str s] [] 64) =
    bcond (decide ((s.length : Int) > 0)) (bcond (inS s 0) (bcond (byteAt s (0 : Int).toNat == 45) (some (.normal, sR1 s (byteAt s (0 : Int).toNat == 45) 1)) (some (.normal, sR1 s (byteAt s (0 : Int).toNat == 45) 0))) none) (some (.normal, sR1 s false 0)) := by kernel_rfl
def figC (s : List UInt8) (f : Int) : Bool := decide (0 ≤ f ∧ f.toNat ≤ s.length ∧ s.length ≤ 1000)
def fgI (s : List UInt8) (f : Int) : Int := (figN (s.drop f.toNat) : Int)
def ret12 : OX := some (.ret, finR 12)
def lastQ (s : List UInt8) (b : Bool) (fr n t m : Int) : OX :=
  bcond (decide (n < 1)) ret12 (bcond (decide (n > 40)) ret12 (bcond (decide (m > 40)) ret12 (bcond (t != (s.length : Int)) ret12 (some (.normal, sR2 s b fr t m)))))
def pntQ (s : List UInt8) (b : Bool) (fr n t : Int) : OX :=
  bcond (figC s (wr (t + 1))) (bcond (fgI s (wr (t + 1)) == 0) ret12 (lastQ s b fr n (wr (wr (t + 1) + fgI s (wr (t + 1)))) (fgI s (wr (t + 1))))) none
def restQ (s : List UInt8) (b : Bool) (fr n t : Int) : OX :=
  bcond (decide (t < (s.length : Int))) (bcond (inS s t) (bcond (byteAt s t.toNat == 46) (pntQ s b fr n t) (lastQ s b fr n t 0)) none) (lastQ s b fr n t 0)
theorem partR2 (s : List UInt8) (b : Bool) (fr : Int) : runsC (ent (R := Ex × PState) Try.prog [(34, eFig)] nolv 64 18446744073709551616 30) Try.prog {} 0 64 18446744073709551616 (endK 0 64 kR2 kRx) 5 (restC 4 (qzx Try.f14)) (sR1 s b fr) =
    bcond (figC s fr) (restQ s b fr (fgI s fr) (wr (fr + fgI s fr))) none := by kernel_rfl
theorem partR3 (s : List UInt8) (b : Bool) (fr t m : Int) : runsC (noH (R := Ex × PState)) Try.prog {} 0 64 18446744073709551616 (endK 0 64 kR3 kR3) 1 (restC 9 (qzx Try.f14)) (sR2 s b fr t m) = some (.normal, sR3 s b fr t m) := by kernel_rfl
def headS (c : Code) : Code := match c with | .seq a _ => a | c => c
theorem partR4 (s : List UInt8) (b : Bool) (fr t m : Int) : code (noH (R := Ex × PState)) Try.prog {} 0 64 18446744073709551616 (headS (stmtN 10 (qzx Try.f14))) (sR3 s b fr t m) (endK 0 64 kR kR) = some (.normal, stR0 s b fr m (wr (t - 1))) := by kernel_rfl
theorem shapeR : restC 10 (qzx Try.f14) = .seq (.seq (headS (stmtN 10 (qzx Try.f14))) (.block 0 (.loop (loopIn (stmtN 10 (qzx Try.f14)))))) (restC 11 (qzx Try.f14)) := by kernel_rfl
structure RdF where
  TR : List Int → Nat → Nat
  okTR : List Int → Nat → Bool
  UN : Int → List Int
  kUN : Int → Nat
  okUN : Int → Bool
  NE : Bool → List Int → Nat → List Int → Nat → Int × Int × Int
  okNE : Bool → List Int → Nat → List Int → Nat → Bool
  WH : Int → Int → List Int
  kWH : Int → Int → Nat
  okWH : Int → Int → Bool
  TE : List Int → Nat → Int → List Int
  kTE : List Int → Nat → Int → Nat
  okTE : List Int → Nat → Int → Bool
  LT : List Int → Nat → List Int → Nat → Bool
  okLT : List Int → Nat → List Int → Nat → Bool
def eTrO (x : RdF) : Ent := fun args pre => match args, pre with
  | [.vec 0 k], [.vecI .i64 l t] => .chk (x.okTR l k) (.ret (.dsl 0 (x.TR l k)) [.vecI .i64 l t])
  | _, _ => .fail
def eUnO (x : RdF) : Ent := fun args pre => match args, pre with
  | [.int .i64 n], [] => .chk (x.okUN n) (.ret (.dsl 0 (x.kUN n)) [.flatI true (x.UN n)])
  | _, _ => .fail
def eNeO (x : RdF) : Ent := fun args pre => match args, pre with
  | [.bool b, .dsl 0 k, .dsl 1 k1], [.vecI .i64 l t, .flatI f l1] => .chk (x.okNE b l k l1 k1) (.ret (R3 (x.NE b l k l1 k1)) [.vecI .i64 l t, .flatI f l1])
  | _, _ => .fail
def eWhO (x : RdF) : Ent := fun args pre => match args, pre with
  | [.agg [.int .i64 a, .int .i64 b]], [] => .chk (x.okWH a b) (.ret (.dsl 0 (x.kWH a b)) [.flatI true (x.WH a b)])
  | _, _ => .fail
def eTeO (x : RdF) : Ent := fun args pre => match args, pre with
  | [.dsl 0 k, .int .i64 n], [.flatI f l] => .chk (x.okTE l k n) (.ret (.dsl 1 (x.kTE l k n)) [.flatI f l, .flatI true (x.TE l k n)])
  | [.dsl 0 k, .int .i64 n], [.vecI .i64 l t] => .chk (x.okTE l k n) (.ret (.dsl 1 (x.kTE l k n)) [.vecI .i64 l t, .flatI true (x.TE l k n)])
  | _, _ => .fail
def eLtO (x : RdF) : Ent := fun args pre => match args, pre with
  | [.dsl 0 k, .dsl 1 k1], [.flatI f l, .flatI f1 l1] => .chk (x.okLT l k l1 k1) (.ret (.bool (x.LT l k l1 k1)) [.flatI f l, .flatI f1 l1])
  | _, _ => .fail
def tabO (x : RdF) : Tab := [(35, eTrO x), (37, eUnO x), (36, eNeO x), (39, eWhO x), (38, eTeO x), (40, eLtO x)]
def outR (a b e : Int) : Option (AV × List PObj) := pure2 (.tuple [.agg [.int .i64 a, .int .i64 b], .int .i64 e]) []
def ckO (b : Bool) (x : Option (AV × List PObj)) : Option (AV × List PObj) := bcond b x none
def endO (x : RdF) (t : Int × Int × Int) (A B : List Int) (kA kB : Nat) : Option (AV × List PObj) :=
  ckO (x.okLT A kA B kB) (bcond (x.LT A kA B kB) (outR 0 0 10) (ckO (x.okLT B kB A kA) (bcond (x.LT B kB A kA) (outR 0 0 10) (outR t.1 t.2.1 0))))
def tailO (x : RdF) (l : List Int) (k : Nat) (m : Int) (t : Int × Int × Int) : Option (AV × List PObj) :=
  bcond (t.2.2 != 0) (outR 0 0 t.2.2) (ckO (x.okWH t.1 t.2.1) (ckO (x.okTE (x.WH t.1 t.2.1) (x.kWH t.1 t.2.1) m) (ckO (x.okTE l k 9)
    (endO x t (x.TE (x.WH t.1 t.2.1) (x.kWH t.1 t.2.1) m) (x.TE l k 9) (x.kTE (x.WH t.1 t.2.1) (x.kWH t.1 t.2.1) m) (x.kTE l k 9)))))
theorem partR5 (x : RdF) (b : Bool) (m : Int) (l : List Int) (q : Nat) : code (ent (R := AV × List PObj) Try.prog (tabO x) nolv 64 18446744073709551616 30) Try.prog {} 0 64 18446744073709551616 (restC 11 (qzx Try.f14)) (stR4 b m l q) (finP Try.prog Try.f14 0 [] pure2) =
    ckO (x.okTR l q) (ckO (x.okUN m) (ckO (x.okNE b l (x.TR l q) (x.UN m) (x.kUN m)) (tailO x l (x.TR l q) m (x.NE b l (x.TR l q) (x.UN m) (x.kUN m))))) := by kernel_rfl
theorem partR12 : finP (R := AV × List PObj) Try.prog Try.f14 0 [] pure2 .ret (finR 12) = outR 0 0 12 := by kernel_rfl
theorem copyCheck_new  : Meets Try.prog 78 [jP 0 0] [jC [AV.nilptr, AV.nilslice] 75] (jT []) [jC [jP 0 0, AV.nilslice] 75] := by
  exact qzy (fn := Try.f78) 0 [rG [hhV 3 (AV.nilptr)], rG [(3, {call := some ⟨[0], [jP 0 0], [AObj.ro 0 []], jP 0 0, [AObj.ro 0 []]⟩, obj := some [jC [AV.nilptr, AV.nilslice] 75]}), (7, {obj := some [jC [jP 0 0, AV.nilslice] 75]})]] [] Try.func78 (by kernel_rfl) Try.call78
    (oA (oLf ([AV.nilptr, AV.nilslice]) (0) (AV.nilptr) (rfl)) <| oA (oS (show 0 < List.length [AV.nilptr, AV.nilslice] from Nat.le_of_ble_eq_true rfl)) <| oA (oS (show [jP 0 0] = renL [0] [jP 0 0] from rfl)) <| oA (oS (show Meets Try.prog 83 [jP 0 0] [AObj.ro 0 []] (jP 0 0) [AObj.ro 0 []] from meets_noescape (fn := Try.f83) Try.func83 (by kernel_rfl) (by kernel_rfl) (by kernel_rfl) (by kernel_rfl) _)) <| oA (oS (show Fits (jC [AV.nilptr, AV.nilslice] 75) (AObj.ren [0] (AObj.ro 0 [])) from fits_any _ rfl rfl)) <| oA (oS (show updOf [0] [jC [AV.nilptr, AV.nilslice] 75] [AObj.ro 0 []] [AObj.ro 0 []] ++ List.map (fun x => x.ren [0]) (List.drop 1 [AObj.ro 0 []]) = [jC [AV.nilptr, AV.nilslice] 75] from rfl)) <| oA (oS (show liesAt Try.prog Try.prog.depth 75 (List.length [AV.nilptr, AV.nilslice] / Try.prog.cellsOf 75) 0 75 1 = true from by kernel_rfl)) <| oSf ([jP 0 0]) ([AV.nilptr, AV.nilslice]) 0 1 75 ([jP 0 0, AV.nilslice]) rfl rfl rfl)
    (oA (oS (@rfl _ (jT []))) <| oA (oV (D := (fun n => decide (1 ≤ n))) (jT []) rfl) <| oA (oS (show jC [jP 0 0, AV.nilslice] 75 = jC [jP 0 0, AV.nilslice] 75 from rfl)) <| oS (show AvoidO (fun n => decide (1 ≤ n)) (jC [jP 0 0, AV.nilslice] 75) from AvoidO.cells (AvoidL.cons (Avoid.ptr rfl) (AvoidL.cons (Avoid.nilslice _) (AvoidL.nil _))))) (by kernel_rfl)
theorem copyCheck_used (n : Nat) : Meets Try.prog 78 [jP 0 0] [jC [jP 0 0, AV.vec 1 n] 75, AObj.ro 0 []] (jT []) [jC [jP 0 0, AV.vec 1 n] 75, AObj.ro 0 []] := by
  exact qzy (fn := Try.f78) 0 [rG [hhV 3 (jP 0 0)], rG [hhV 3 (jP 0 0)]] [] Try.func78 (by kernel_rfl) Try.call78
    (oA (oLf ([jP 0 0, AV.vec 1 n]) (0) (jP 0 0) (rfl)) <| oLf ([jP 0 0, AV.vec 1 n]) (0) (jP 0 0) (rfl))
    (oA (oS (@rfl _ (jT []))) <| oA (oV (D := (fun n => decide (2 ≤ n))) (jT []) rfl) <| oA (oS (show jC [jP 0 0, AV.vec 1 n] 75 = jC [jP 0 0, AV.vec 1 n] 75 from rfl)) <| oA (oS (show AvoidO (fun n => decide (2 ≤ n)) (jC [jP 0 0, AV.vec 1 n] 75) from AvoidO.cells (AvoidL.cons (Avoid.ptr rfl) (AvoidL.cons (Avoid.vec rfl) (AvoidL.nil _))))) <| oA (oS (show AObj.ro 0 [] = AObj.ro 0 [] from rfl)) <| oS (show AvoidO (fun n => decide (2 ≤ n)) (AObj.ro 0 []) from AvoidO.ro (AvoidL.nil _))) (by kernel_rfl)
theorem writeByte_new (c : Int) (hc : 0 ≤ c ∧ c < 256) : Meets Try.prog 61 [jP 0 0, jU c] [jC [AV.nilptr, AV.nilslice] 75] AV.niliface [jC [jP 0 0, AV.vec 1 ([UInt8.ofNat c.toNat].length)] 75, AObj.vec (u8s [UInt8.ofNat c.toNat]) 5 1] := by
  exact qzy (fn := Try.f61) 2 [rG [], rG [(1, {call := some ⟨[0], [jP 0 0], [jC [AV.nilptr, AV.nilslice] 75], jT [], [jC [jP 0 0, AV.nilslice] 75]⟩, obj := some [jC [jP 0 0, AV.nilslice] 75]})], rG [hhV 4 (AV.nilslice), (6, {nm := [2], obj := some [jC [jU c] 5]}), (7, {nm := [1], obj := some [AObj.vec (u8s [UInt8.ofNat c.toNat]) 5 1]}), (10, {obj := some [jC [jP 0 0, AV.vec 1 1] 75]})], rG []] [{}] Try.func61 (by kernel_rfl) Try.call61
    (oA (oS (show [jP 0 0] = renL [0] [jP 0 0] from rfl)) <| oA (oS (show Meets Try.prog 78 [jP 0 0] [jC [AV.nilptr, AV.nilslice] 75] (jT []) [jC [jP 0 0, AV.nilslice] 75] from copyCheck_new)) <| oA (oS (show Fits (jC [AV.nilptr, AV.nilslice] 75) (AObj.ren [0] (jC [AV.nilptr, AV.nilslice] 75)) from Fits.refl _)) <| oA (oS (show updOf [0] [jC [AV.nilptr, AV.nilslice] 75] [jC [AV.nilptr, AV.nilslice] 75] [jC [jP 0 0, AV.nilslice] 75] ++ List.map (fun x => x.ren [0]) (List.drop 1 [jC [jP 0 0, AV.nilslice] 75]) = [jC [jP 0 0, AV.nilslice] 75] from rfl)) <| oA (oLf ([jP 0 0, AV.nilslice]) (1) (AV.nilslice) (rfl)) <| oA (oS (show ([jU c] : List AV).length = 1 from rfl)) <| oA (oS (show 0 + 1 ≤ List.length (List.flatten (List.replicate 1 [jU 0])) from Nat.le_of_ble_eq_true rfl)) <| oA (oS (show AObj.cells (List.take 0 (List.flatten (List.replicate 1 [jU 0])) ++ [jU c] ++ List.drop 1 (List.flatten (List.replicate 1 [jU 0]))) 5 = jC [jU c] 5 from rfl)) <| oA (oS (show 0 ≤ 0 from Nat.zero_le _)) <| oA (oS (show 0 - 0 + 1 * 1 ≤ List.length [jU c] from Nat.le_of_ble_eq_true rfl)) <| oA (oS (show 0 < 1 from by decide)) <| oA (oS (show 2 * 1 * 1 ≤ 281474976710656 from by omega)) <| oA (oS (show 2 * 1 < 9223372036854775808 from by omega)) <| oA (oS (show AObj.vec (List.take (1 * 1) (List.drop (0 - 0) [jU c])) 5 1 = AObj.vec (u8s [UInt8.ofNat c.toNat]) 5 1 from by rw [← List.nil_append [UInt8.ofNat c.toNat], ← u8s_snoc hc]; rfl)) <| oSf ([AV.vec 1 1]) ([jP 0 0, AV.nilslice]) 1 1 75 ([jP 0 0, AV.vec 1 1]) rfl rfl rfl)
    (oA (oS (@rfl _ AV.niliface)) <| oA (oS (show jC [jP 0 0, AV.vec 1 1] 75 = jC [jP 0 0, AV.vec 1 ([UInt8.ofNat c.toNat].length)] 75 from rfl)) <| oA (oS (show AvoidO (fun n => decide (2 ≤ n)) (jC [jP 0 0, AV.vec 1 ([UInt8.ofNat c.toNat].length)] 75) from AvoidO.cells (AvoidL.cons (Avoid.ptr rfl) (AvoidL.cons (Avoid.vec rfl) (AvoidL.nil _))))) <| oA (oS (show AObj.vec (u8s [UInt8.ofNat c.toNat]) 5 1 = AObj.vec (u8s [UInt8.ofNat c.toNat]) 5 1 from rfl)) <| oS (show AvoidO (fun n => decide (2 ≤ n)) (AObj.vec (u8s [UInt8.ofNat c.toNat]) 5 1) from AvoidO.vec (AvoidL.u8s _ _))) (by kernel_rfl)
theorem writeByte_more (s : List UInt8) (c : Int) (hc : 0 ≤ c ∧ c < 256) (hs : s.length < 1000000) : Meets Try.prog 61 [jP 0 0, jU c] [jC [jP 0 0, AV.vec 1 s.length] 75, AObj.vec (u8s s) 5 1] AV.niliface [jC [jP 0 0, AV.vec 2 ((s ++ [UInt8.ofNat c.toNat]).length)] 75, AObj.dead, AObj.vec (u8s (s ++ [UInt8.ofNat c.toNat])) 5 1] := by
  exact qzy (fn := Try.f61) 2 [rG [], rG [(1, {call := some ⟨[0, 1], [jP 0 0], [jC [jP 0 0, AV.vec 1 s.length] 75, AObj.ro 0 []], jT [], [jC [jP 0 0, AV.vec 1 s.length] 75, AObj.ro 0 []]⟩, obj := some [jC [jP 0 0, AV.vec 1 s.length] 75, AObj.vec (u8s s) 5 1]})], rG [hhV 4 (AV.vec 1 s.length), (6, {nm := [3], obj := some [jC [jU c] 5]}), (7, {nm := [2], obj := some [AObj.vec (u8s (s ++ [UInt8.ofNat c.toNat])) 5 1]}), (10, {obj := some [jC [jP 0 0, AV.vec 2 (s.length + 1)] 75]})], rG []] [{}] Try.func61 (by kernel_rfl) Try.call61
    (oA (oS (show [jP 0 0] = renL [0, 1] [jP 0 0] from rfl)) <| oA (oS (show Meets Try.prog 78 [jP 0 0] [jC [jP 0 0, AV.vec 1 s.length] 75, AObj.ro 0 []] (jT []) [jC [jP 0 0, AV.vec 1 s.length] 75, AObj.ro 0 []] from copyCheck_used s.length)) <| oA (oS (show Fits (jC [jP 0 0, AV.vec 1 s.length] 75) (AObj.ren [0, 1] (jC [jP 0 0, AV.vec 1 s.length] 75)) from Fits.refl _)) <| oA (oS (show Fits (AObj.vec (u8s s) 5 1) (AObj.ren [0, 1] (AObj.ro 0 [])) from fits_any _ rfl rfl)) <| oA (oS (show updOf [0, 1] [jC [jP 0 0, AV.vec 1 s.length] 75, AObj.vec (u8s s) 5 1] [jC [jP 0 0, AV.vec 1 s.length] 75, AObj.ro 0 []] [jC [jP 0 0, AV.vec 1 s.length] 75, AObj.ro 0 []] ++ List.map (fun x => x.ren [0, 1]) (List.drop 2 [jC [jP 0 0, AV.vec 1 s.length] 75, AObj.ro 0 []]) = [jC [jP 0 0, AV.vec 1 s.length] 75, AObj.vec (u8s s) 5 1] from rfl)) <| oA (oLf ([jP 0 0, AV.vec 1 s.length]) (1) (AV.vec 1 s.length) (rfl)) <| oA (oS (show ([jU c] : List AV).length = 1 from rfl)) <| oA (oS (show 0 + 1 ≤ List.length (List.flatten (List.replicate 1 [jU 0])) from Nat.le_of_ble_eq_true rfl)) <| oA (oS (show AObj.cells (List.take 0 (List.flatten (List.replicate 1 [jU 0])) ++ [jU c] ++ List.drop 1 (List.flatten (List.replicate 1 [jU 0]))) 5 = jC [jU c] 5 from rfl)) <| oA (oS (show 0 ≤ 0 from Nat.zero_le _)) <| oA (oS (show 0 - 0 + 1 * 1 ≤ List.length [jU c] from Nat.le_of_ble_eq_true rfl)) <| oA (oS (show List.length (u8s s) = s.length * 1 from lnO)) <| oA (oS (show 2 * (s.length + 1) * 1 ≤ 281474976710656 from by omega)) <| oA (oS (show 2 * (s.length + 1) < 9223372036854775808 from by omega)) <| oA (oS (show AObj.vec ((u8s s) ++ (List.take (1 * 1) (List.drop (0 - 0) [jU c]))) 5 1 = AObj.vec (u8s (s ++ [UInt8.ofNat c.toNat])) 5 1 from congrArg (fun z => AObj.vec z 5 1) (u8s_snoc hc))) <| oSf ([AV.vec 2 (s.length + 1)]) ([jP 0 0, AV.vec 1 s.length]) 1 1 75 ([jP 0 0, AV.vec 2 (s.length + 1)]) rfl rfl rfl)
    (oA (oS (@rfl _ AV.niliface)) <| oA (oS (show jC [jP 0 0, AV.vec 2 (s.length + 1)] 75 = jC [jP 0 0, AV.vec 2 ((s ++ [UInt8.ofNat c.toNat]).length)] 75 from by simp)) <| oA (oS (show AvoidO (fun n => decide (3 ≤ n)) (jC [jP 0 0, AV.vec 2 ((s ++ [UInt8.ofNat c.toNat]).length)] 75) from AvoidO.cells (AvoidL.cons (Avoid.ptr rfl) (AvoidL.cons (Avoid.vec rfl) (AvoidL.nil _))))) <| oA (oS (show AObj.vec (u8s (s ++ [UInt8.ofNat c.toNat])) 5 1 = AObj.vec (u8s (s ++ [UInt8.ofNat c.toNat])) 5 1 from rfl)) <| oS (show AvoidO (fun n => decide (3 ≤ n)) (AObj.vec (u8s (s ++ [UInt8.ofNat c.toNat])) 5 1) from AvoidO.vec (AvoidL.u8s _ _))) (by kernel_rfl)
theorem builderString_meets (s : List UInt8) (h0 : s ≠ []) (hs : s.length < 1000000) : Meets Try.prog 62 [jP 0 0] [jC [jP 0 0, AV.vec 1 s.length] 75, AObj.vec (u8s s) 5 1] (jS s) [jC [jP 0 0, AV.vec 1 s.length] 75, AObj.dead] := by
  exact qzy (fn := Try.f62) 0 [rG [], rG [hhV 3 (AV.vec 1 s.length), hhV 8 (AV.vec 1 s.length), hhV 10 (jS s)]] [{}] Try.func62 (by kernel_rfl) Try.call62
    (oA (oLf ([jP 0 0, AV.vec 1 s.length]) (1) (AV.vec 1 s.length) (rfl)) <| oA (oS (show 0 < List.length (u8s s) from by rw [qxx]; exact List.length_pos_iff.2 h0)) <| oA (oLf ([jP 0 0, AV.vec 1 s.length]) (1) (AV.vec 1 s.length) (rfl)) <| oA (oS (show u8s s = u8s s from rfl)) <| oA (oS (show ((s.length : Nat) : Int) = ((s.length : Nat) : Int) from rfl)) <| oA (oS (show s ≠ [] from h0)) <| oS (show s.length < 9223372036854775808 from by omega))
    (oA (oS (@rfl _ (jS s))) <| oA (oS (show jC [jP 0 0, AV.vec 1 s.length] 75 = jC [jP 0 0, AV.vec 1 s.length] 75 from rfl)) <| oS (show AvoidO (fun n => decide (2 ≤ n)) (jC [jP 0 0, AV.vec 1 s.length] 75) from AvoidO.cells (AvoidL.cons (Avoid.ptr rfl) (AvoidL.cons (Avoid.vec rfl) (AvoidL.nil _))))) (by kernel_rfl)
end Go.Proofs.Ytmgiefeggkikcaa
