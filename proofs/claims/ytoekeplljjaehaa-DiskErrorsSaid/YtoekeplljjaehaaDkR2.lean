/- Layer 26: what can't be done changes nothing: it is so. -/
import Derived.Test.YtoekeplljjaehaaGr06
set_option linter.unusedVariables false
set_option linter.unusedSimpArgs false
namespace Go.Proofs.Ytoekeplljjaehaa
open Go Sx
theorem out_ge {a : Int} {l : Nat} (h : 320 < a.toNat + l ∨ a < 0) : inD 320 a l = false := decide_eq_false (by omega)
theorem rdX_ok {d : DD} {a c : Int} (hd : d.ok) (ha : i64B a = true) (hc : i64B c = true) (h : inD 320 a c.toNat = false) : ∀ b ∈ rdX d a c, b = true := by
  intro b hb
  rcases List.mem_append.1 hb with hb | hb
  · exact DD.chk_ok hd b hb
  · simp only [List.mem_cons, List.not_mem_nil, or_false] at hb
    rcases hb with rfl | rfl | rfl
    · exact ha
    · exact hc
    · rw [h, Bool.and_false]; rfl
theorem wrX_ok {d : DD} {a : Int} {l : Nat} (hd : d.ok) (ha : i64B a = true) (h : inD 320 a l = false) : ∀ b ∈ wrX d a l, b = true := by
  intro b hb
  rcases List.mem_append.1 hb with hb | hb
  · exact DD.chk_ok hd b hb
  · simp only [List.mem_cons, List.not_mem_nil, or_false] at hb
    rcases hb with rfl | rfl
    · exact ha
    · rw [h]; rfl
theorem all_app {a b : List Bool} (ha : ∀ x ∈ a, x = true) (hb : ∀ x ∈ b, x = true) : ∀ x ∈ a ++ b, x = true := fun x hx => (List.mem_append.1 hx).elim (ha x) (hb x)
theorem all_one {a : Bool} (ha : a = true) : ∀ x ∈ [a], x = true := fun x hx => by rw [List.mem_singleton.1 hx]; exact ha
theorem mkB_ok {m : Nat} (h : m ≤ 1000000) : mkB m = true := decide_eq_true (by omega)
theorem nmI_pos {x : Int} (h : 0 ≤ x) : nmI x = x := by unfold nmI; rw [if_neg (by omega)]
theorem nmI_neg {x : Int} (h : x < 0) (h2 : -9223372036854775808 ≤ x) : nmI x = -1 - x := by unfold nmI; rw [if_pos h, i64_in (by omega) (by omega)]
theorem crX_ok {d : DD} {m : Nat} {x : Int} (hp : (d.p = none ∧ m = 0) ∨ ∃ rows, d.p = some (rows, m)) (hm : m ≤ 1000000) (hx : (m : Int) ≤ nmI x) : ∀ b ∈ crX d x, b = true := by
  unfold crX
  rcases hp with ⟨hp, rfl⟩ | ⟨rows, hp⟩
  · rw [hp]; exact all_one (decide_eq_true hx)
  · rw [hp]
    intro b hb
    simp only [List.mem_cons, List.not_mem_nil, or_false] at hb
    rcases hb with rfl | rfl
    · exact mkB_ok hm
    · exact decide_eq_true hx
theorem askE_ok {d : DD} {m : Nat} {at_ n : Int} (hd : d.ok) (ha : i64B at_ = true) (hn : i64B n = true) (hm : m ≤ 1000000) (hp : (d.p = none ∧ m = 0) ∨ ∃ rows, d.p = some (rows, m)) : ∀ b ∈ askE d m at_ n, b = true := by
  have a1 : pkI at_ 1000 = (pk at_ 1000 : Nat) := pkI_nat (n := 1000) ha
  have a2 : pkI at_ 321 = (pk at_ 321 : Nat) := pkI_nat (n := 321) ha
  have n1 : pkI n 320 = (pk n 320 : Nat) := pkI_nat (n := 320) hn
  have n2 : pkI n 1000 = (pk n 1000 : Nat) := pkI_nat (n := 1000) hn
  have b1 := pk_lt (c := at_) (n := 1000) (by omega)
  have b2 := pk_lt (c := at_) (n := 321) (by omega)
  have b3 := pk_lt (c := n) (n := 320) (by omega)
  have b4 := pk_lt (c := n) (n := 1000) (by omega)
  unfold askE
  rw [a1, a2, n1, n2, i64_in (n := 321 + (pk at_ 1000 : Nat)) (by omega) (by omega), i64_in (n := -1 - (pk at_ 1000 : Nat)) (by omega) (by omega), i64_in (n := (pk n 320 : Nat) + 1) (by omega) (by omega), i64_in (n := (m : Int) + (pk n 1000 : Nat)) (by omega) (by omega), i64_in (n := -1 - (m : Int)) (by omega) (by omega), i64_in (n := -1 - (m : Int) - (pk n 1000 : Nat)) (by omega) (by omega)]
  refine all_app (DD.chk_ok hd) (all_app (all_one ha) (all_app (rdX_ok hd (i64B_to (by omega)) rfl (out_ge (by omega))) (all_app (all_one ha) (all_app (rdX_ok hd (i64B_to (by omega)) rfl (out_ge ?_)) (all_app (all_one ha) (all_app (rdX_ok hd (i64B_to (by omega)) rfl (out_ge (by omega)))
    (all_app (wrX_ok hd (i64B_to (by omega)) (out_ge (by omega))) (all_app (all_one hn) (all_app (wrX_ok hd (i64B_to (by omega)) (out_ge (by omega))) (all_app (all_one hn) (all_app (crX_ok hp hm ?_) (all_app (all_one hn) (crX_ok hp hm ?_)))))))))))))
  · left; show 320 < _ + 321; omega
  · rw [nmI_pos (by omega)]; omega
  · rw [nmI_neg (by omega) (by omega)]; omega
theorem errors_true {l1 l2 : Nat} {r1 r2 : List (List CV)} {at_ n : Int} (h1 : okA l1 r1 = true) (h2 : okA l2 r2 = true) (ha : i64B at_ = true) (hn : i64B n = true) : (xErrors l1 l2 r1 r2 at_ n).run pure2 = some (.bool true, [fr r1, fr r2]) := by
  have e1 := sT1_len r1
  have e2 := sT2_len r1 r2
  have hP := fillP_len (r2.take 8)
  have hP2 : (fillP (r2.take 8)).length ≤ 2560 := by rw [List.length_take] at hP; omega
  unfold xErrors
  refine ansChks_run ?_ (by intro b hb; simp only [List.mem_cons, List.not_mem_nil, or_false] at hb; rcases hb with rfl | rfl; exact h1; exact h2)
  simp only [Ans.run]
  cases hP0 : (fillP (r2.take 8)).isEmpty with
  | true =>
    rw [bcT rfl]
    have hd : DD.ok ⟨sT1 r1, sT2 r1 r2, none⟩ := ⟨e1, e2, fun rows m h => by cases h⟩
    unfold xE0
    refine ansChks_run ?_ (askE_ok hd ha hn (by omega) (.inl ⟨rfl, rfl⟩))
    refine ansChks_run ?_ (DD.chk_ok hd)
    simp only [Ans.run]
    rw [bcT (by simp)]; rfl
  | false =>
    rw [bcF rfl]
    have hd : DD.ok ⟨sT1 r1, sT2 r1 r2, some ((fillP (r2.take 8)).map rowOf, (fillP (r2.take 8)).length)⟩ := ⟨e1, e2, fun rows m h => by cases h; exact ⟨by rw [List.length_map], by omega⟩⟩
    have hend : (endE r1 r2 ((fillP (r2.take 8)).map rowOf) (fillP (r2.take 8)).length).run pure2 = some (.bool true, [fr r1, fr r2]) := by
      unfold endE
      refine ansChks_run ?_ (DD.chk_ok hd)
      simp only [Ans.run]
      rw [bcT (by simp), bcT (by simp)]; rfl
    generalize hm : (fillP (r2.take 8)).length = m at hd hend hP2
    unfold xE1
    refine ansChks_run ?_ (askE_ok hd ha hn (by omega) (.inr ⟨_, rfl⟩))
    simp only [Ans.run]
    by_cases hm0 : 0 < m
    · rw [bcT (decide_eq_true (by omega))]
      refine ansChks_run hend ?_
      have b1 := pk_lt (c := n) (n := m) hm0
      have ep : pkI n (m : Int) = (pk n m : Nat) := pkI_nat (n := m) hn
      intro b hb
      simp only [List.mem_cons, List.not_mem_nil, or_false] at hb
      rcases hb with rfl | rfl | rfl | rfl | rfl | rfl
      · exact hn
      · exact posB_to (by omega)
      · exact hn
      · exact posB_to (by omega)
      · exact mkB_ok (by omega)
      · rw [ep, i64_in (by omega) (by omega)]
        unfold bad2
        rw [nmI_pos (x := ((pk n m : Nat) : Int)) (by omega), nmI_neg (by omega) (by omega)]
        exact decide_eq_true (by omega)
    · rw [bcF (decide_eq_false (by omega))]
      exact hend
end Go.Proofs.Ytoekeplljjaehaa
