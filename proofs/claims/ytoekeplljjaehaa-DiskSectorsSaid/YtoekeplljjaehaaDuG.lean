/- Layer 26: pieces in any turn: the law is true. -/
import Derived.Test.YtoekeplljjaehaaGr08
set_option linter.unusedVariables false
set_option linter.unusedSimpArgs false
namespace Go.Proofs.Ytoekeplljjaehaa
open Go Sx
theorem pE_in (l : List (List UInt8)) : ∀ (d j : Nat), j + d ≤ 5 → ∀ p ∈ pE l d j, 64 * j ≤ p.1 ∧ p.1 + p.2.length ≤ 320
  | 0, j, h, p, hp => by cases hp
  | d + 1, j, h, p, hp => by
    have hu := u64_le (l.getD j [])
    rcases List.mem_append.1 hp with hp | hp
    · have := parts_in _ _ _ (Nat.le_refl _) p hp
      omega
    · have := pE_in l d (j + 1) (by omega) p hp
      omega
theorem pE_apart (l : List (List UInt8)) : ∀ (d j : Nat), j + d ≤ 5 → (pE l d j).Pairwise fun p q => p.1 + p.2.length ≤ q.1
  | 0, j, h => .nil
  | d + 1, j, h => by
    have hu := u64_le (l.getD j [])
    refine List.pairwise_append.2 ⟨parts_apart _ _ _ (Nat.le_refl _), pE_apart l d (j + 1) (by omega), fun p hp q hq => ?_⟩
    have h1 := parts_in _ _ _ (Nat.le_refl _) p hp
    have h2 := pE_in l d (j + 1) (by omega) q hq
    omega
theorem pE_len (l : List (List UInt8)) : ∀ (d j : Nat), (pE l d j).length ≤ 64 * d
  | 0, j => by simp [pE]
  | d + 1, j => by
    have hu := u64_le (l.getD j [])
    have h1 := parts_len _ (64 * j) (u64 (l.getD j [])) (Nat.le_refl _)
    have h2 := pE_len l d (j + 1)
    simp only [pE, List.length_append]; omega
theorem tE_len (l : List (List UInt8)) : ∀ (d j : Nat) (t : List UInt8), j + d ≤ 5 → t.length = 320 → (tE l d j t).length = 320
  | 0, j, t, _, h => h
  | d + 1, j, t, hj, h => by
    have hu := u64_le (l.getD j [])
    exact tE_len l d (j + 1) _ (by omega) (by rw [splice_len (by omega)]; exact h)
theorem endE'_true {r1 : List (List CV)} {ks : List Int} {a : List UInt8} (ha : a.length = 320) : (endE' r1 ks a a).run pure2 = some (.bool true, pT2 r1 ks) := by
  unfold endE'
  refine ansChks_run (r := some (.bool true, pT2 r1 ks)) (by simp [Ans.run, pure2]) ?_
  intro b hb
  simp only [List.mem_cons, List.not_mem_nil, or_false, or_self] at hb
  rw [hb]; exact smN_t ha ha
theorem askE'_ok {l1 lk : Nat} {r1 : List (List CV)} {ks : List Int} {l : List (List UInt8)} {e : Bool} (hl : okA l1 r1 = true) (he : e = true) : ∀ b ∈ askE' l1 lk r1 ks l e, b = true := by
  have h1 := smN_t (sT1_len r1) (sT1_len r1)
  have h2 := eqSt_refl (sEN r1 ks lk l (sT1 r1) (sT1 r1) 0)
  unfold askE'
  intro b hb
  simp only [List.mem_cons, List.not_mem_nil, or_false] at hb
  rcases hb with rfl | rfl | rfl | rfl | rfl <;> assumption
theorem sectors_true {l1 lk : Nat} {r1 : List (List CV)} {ks : List Int} {l : List (List UInt8)} (hl : okA l1 r1 = true) (hk : ks.length = lk) (hi : ks.all i64B = true) :
    ((pE l 5 0).isEmpty = true → (xE'0 l1 lk r1 ks l).run pure2 = some (.bool true, pT2 r1 ks)) ∧
    ((pE l 5 0).isEmpty = false → (keepS (pE l 5 0).length ks).isEmpty = true → (xE'E l1 lk r1 ks l).run pure2 = some (.bool true, pT2 r1 ks)) ∧
    ((pE l 5 0).isEmpty = false → (keepS (pE l 5 0).length ks).isEmpty = false → (xE'V l1 lk r1 ks l (keepS (pE l 5 0).length ks)).run pure2 = some (.bool true, pT2 r1 ks)) := by
  have e1 := sT1_len r1
  have e2 : (tL r1 l).length = 320 := tE_len l 5 0 _ (by omega) e1
  have hs := smN_t e1 e2
  have hin : ∀ p ∈ pE l 5 0, p.1 + p.2.length ≤ 320 := fun p hp => (pE_in l 5 0 (by omega) p hp).2
  have hap := pE_apart l 5 0 (by omega)
  have hlen := pE_len l 5 0
  have hrows := rowsB_of hin
  have hv : vB ((pE l 5 0).map rowOf) (pE l 5 0).length = true := decide_eq_true ⟨by rw [List.length_map], by omega⟩
  have hne : (pE l 5 0).isEmpty = false → (!(pE l 5 0).isEmpty) = true ∧ 0 < (pE l 5 0).length := fun h => ⟨by rw [h]; rfl, List.length_pos_iff.2 (fun e => by rw [e] at h; cases h)⟩
  refine ⟨fun h => ?_, fun h h2 => ?_, fun h h2 => ?_⟩
  · unfold xE'0
    refine ansChks_run (endE'_true e1) (all_app (askE'_ok hl h) ?_)
    intro b hb
    simp only [List.mem_cons, List.not_mem_nil, or_false, or_self] at hb
    rw [hb]; exact hs
  · obtain ⟨n1, n2⟩ := hne h
    have a1 := askKp_to hk n2 (show (pE l 5 0).length ≤ 1099511627776 by omega) hi
    unfold xE'E
    refine ansChks_run (endE'_true e1) (all_app (askE'_ok hl n1) ?_)
    intro b hb
    simp only [List.mem_cons, List.not_mem_nil, or_false] at hb
    rcases hb with rfl | rfl | rfl | rfl | rfl | rfl <;> assumption
  · obtain ⟨n1, n2⟩ := hne h
    have a1 := askKp_to hk n2 (show (pE l 5 0).length ≤ 1099511627776 by omega) hi
    have hok : okK (pE l 5 0).length (tk (pE l 5 0).length) (keepS (pE l 5 0).length ks) = true := keepL_ok n2 (by omega) _ _
    have htl : (tk (pE l 5 0).length).length = (pE l 5 0).length := by unfold tk; simp
    obtain ⟨ho, hg⟩ := okK_once htl hok
    have hkl : (keepS (pE l 5 0).length ks).length ≤ 20 := by
      unfold keepS
      have := keepL_len (pE l 5 0).length (ks.take 20) (tk (pE l 5 0).length)
      rw [List.length_take] at this; omega
    generalize keepS (pE l 5 0).length ks = one at *
    have hok' : okK (pE l 5 0).length (tk (pE l 5 0).length) one.reverse = true := once_okK htl (once_rev ho) (fun x hx => hg x (List.mem_reverse.1 hx))
    have h1pos : 0 < one.length := List.length_pos_iff.2 (fun e => by rw [e] at h2; cases h2)
    have hlay := layAll_rev hin hap one (sT1 r1) ho e1
    have hll := layAll_len hrows (l := one) (k := sT1 r1) (by rw [List.length_map]; exact okK_in hok) e1
    have nb : (!one.isEmpty) = true := by rw [h2]; rfl
    have hc : askC one one.length 320 320 320 320 (pE l 5 0).length (sT1 r1) (tL r1 l) ((pE l 5 0).map rowOf) = true := decide_eq_true ⟨rfl, by omega, rfl, rfl, rfl, by rw [List.length_map], by omega, e1, e2, by omega⟩
    have hc' : askC one.reverse one.length 320 320 320 320 (pE l 5 0).length (sT1 r1) (tL r1 l) ((pE l 5 0).map rowOf) = true := decide_eq_true ⟨List.length_reverse, by omega, rfl, rfl, rfl, by rw [List.length_map], by omega, e1, e2, by omega⟩
    have hq := eqSt_refl (sG0 r1 ks (sT1 r1) (tL r1 l) ((pE l 5 0).map rowOf) (pE l 5 0).length one one.length (IntKind.i64.wrap ((one.length : Int) - 1)))
    have hcl : clB (0 < one.length ∧ one.length ≤ 1000) = true := clB_to ⟨h1pos, by omega⟩
    unfold xE'V
    rw [hlay]
    refine ansChks_run (endE'_true hll) (all_app (askE'_ok hl n1) ?_)
    intro b hb
    simp only [List.mem_cons, List.not_mem_nil, or_false] at hb
    rcases hb with rfl | rfl | rfl | rfl | rfl | rfl | rfl | rfl | rfl | rfl <;> assumption
end Go.Proofs.Ytoekeplljjaehaa
