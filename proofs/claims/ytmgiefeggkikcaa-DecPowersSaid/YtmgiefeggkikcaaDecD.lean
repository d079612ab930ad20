import Derived.Test.YtmgiefeggkikcaaDecC
set_option linter.unusedVariables false
set_option linter.unusedSimpArgs false
set_option maxRecDepth 20000
namespace Go.Proofs.Ytmgiefeggkikcaa
open Go Sx Dc

/-- The greatest of the first n numbers (of the first one, if n is 0). -/
def maxU (l : List Int) : Nat → Int
  | 0 => l.getD 0 0
  | n + 1 => max (maxU l n) (l.getD n 0)
theorem maxU_zero {l : List Int} (h : ∀ x ∈ l, 0 ≤ x) : ∀ n, n ≤ l.length → 0 < l.length → 0 ≤ maxU l n ∧ (maxU l n = 0 → ∀ i, i < n → l.getD i 0 = 0) ∧ ((∀ i, i < l.length → l.getD i 0 = 0) → maxU l n = 0)
  | 0, _, h0 => by
    have e : l.getD 0 0 = l[0] := by simp [List.getD, h0]
    exact ⟨by rw [maxU, e]; exact h _ (List.getElem_mem h0), fun _ i hi => by omega, fun a => a 0 h0⟩
  | n + 1, hn, h0 => by
    obtain ⟨h1, h2, h3⟩ := maxU_zero h n (by omega) h0
    have e : l.getD n 0 = l[n] := by simp [List.getD, (by omega : n < l.length)]
    have hp : 0 ≤ l.getD n 0 := by rw [e]; exact h _ (List.getElem_mem (by omega))
    refine ⟨by rw [maxU]; omega, fun g i hi => ?_, fun a => ?_⟩
    · rw [maxU] at g
      by_cases hi' : i = n
      · subst hi'; omega
      · exact h2 (by omega) i (by omega)
    · rw [maxU, h3 a, a n (by omega)]; rfl
theorem maxU_val {l : List Int} (h : Dig l) (h0 : 0 < l.length) : maxU l l.length = 0 ↔ val l = 0 := by
  obtain ⟨_, h2, h3⟩ := maxU_zero (fun x hx => (h x hx).1) l.length (Nat.le_refl _) h0
  rw [val_zero_iff h]
  constructor
  · intro g d hd
    obtain ⟨i, hi, rfl⟩ := List.getElem_of_mem hd
    have := h2 g i hi
    simpa [List.getD, hi] using this
  · intro g
    refine h3 fun i hi => ?_
    have := g l[i] (List.getElem_mem hi)
    simpa [List.getD, hi] using this

theorem max_round (l : List Int) (o c n : Nat) (h : n < l.length) (hl : l.length < 9223372036854775808) : Tri Try.prog (loopN (bodyOf Try.f77) 0) (⟨[some (AV.slice 0 o l.length c), none, none, some (jU (maxU l n)), sI ((n : Nat) : Int), none, none, none, none, none, none, none, none, none, none, none, none, none, none, none, none, none, none, none, none], [some (AObj.ro o (ints .u8 l))]⟩) .normal (⟨[some (AV.slice 0 o l.length c), none, none, some (jU (maxU l (n + 1))), sI ((n + 1 : Nat) : Int), none, none, none, none, none, none, none, none, none, none, none, none, none, none, none, none, none, none, none, none], [some (AObj.ro o (ints .u8 l))]⟩) 1 := by
  exact tri_weak [rG [hhB 3 true], rG [hhV 3 (jP 0 (o + n)), hhV 4 (jU (l.getD n 0)), hhV 5 (jU (max (maxU l n) (l.getD n 0)))], rG [hhI 1 ((n + 1 : Nat) : Int)]]
    (oA (oS (show AV.bool (decide (((n : Nat) : Int) < ((l.length : Nat) : Int))) = jB true from bT (by omega))) <| oA (oS (show 0 ≤ ((n : Nat) : Int) from by omega)) <| oA (oS (show ((n : Nat) : Int) < ((l.length : Nat) : Int) from by omega)) <| oA (oS (show AV.ptr 0 (o + Int.toNat ((n : Nat) : Int) * 1) = jP 0 (o + n) from ptrE (by omega))) <| oA (oS (show o ≤ (o + n) from by omega)) <| oA (oS (show (ints .u8 l : List AV)[(o + n) - o]? = some (jU (l.getD n 0)) from ints_at [] (by simp only [List.length_nil, List.length_cons] <;> omega) (by omega))) <| oA (oS (show AV.int .u8 (if (l.getD n 0) > maxU l n then (l.getD n 0) else maxU l n) = jU (max (maxU l n) (l.getD n 0)) from maxI)) <| oW (((n : Nat) : Int) + 1) ((n + 1 : Nat) : Int) (by omega))
    (oA (oR [AV.slice 0 o l.length c]) <| oA (oS (show jU (max (maxU l n) (l.getD n 0)) = jU (maxU l (n + 1)) from by rw [maxU])) <| oA (oR [jI ((n + 1 : Nat) : Int)]) <| oQ [AObj.ro o (ints .u8 l)]) (by kernel_rfl)

def max_inv (l : List Int) (o c n : Nat) : AState :=
  ⟨[some (AV.slice 0 o l.length c), none, none, some (jU (maxU l n)), sI ((n : Nat) : Int), none, none, none, none, none, none, none, none, none, none, none, none, none, none, none, none, none, none, none, none], [some (AObj.ro o (ints .u8 l))]⟩

def max_out (l : List Int) (o c : Nat) : AState :=
  ⟨[none, none, none, some (jU (maxU l l.length)), none, none, none, none, none, none, none, none, none, none, none, none, none, none, none, none, none, none, none, none, none], [some (AObj.ro o (ints .u8 l))]⟩

theorem max_last (l : List Int) (o c : Nat) (hl : l.length < 9223372036854775808) : Tri Try.prog (loopN (bodyOf Try.f77) 0) (⟨[some (AV.slice 0 o l.length c), none, none, some (jU (maxU l l.length)), sI ((l.length : Nat) : Int), none, none, none, none, none, none, none, none, none, none, none, none, none, none, none, none, none, none, none, none], [some (AObj.ro o (ints .u8 l))]⟩) (.exit 0) (⟨[none, none, none, some (jU (maxU l l.length)), none, none, none, none, none, none, none, none, none, none, none, none, none, none, none, none, none, none, none, none, none], [some (AObj.ro o (ints .u8 l))]⟩) 1 := by
  exact tri_weak [rG [hhB 3 false]]
    (oS (show AV.bool (decide (((l.length : Nat) : Int) < ((l.length : Nat) : Int))) = jB false from bF (by omega)))
    (oA (oR [jU (maxU l l.length)]) <| oQ [AObj.ro o (ints .u8 l)]) (by kernel_rfl)

theorem max_loop (l : List Int) (o c : Nat) (h0 : 1 ≤ l.length) (hl : l.length < 9223372036854775808) : Tri Try.prog (.loop (loopN (bodyOf Try.f77) 0)) (max_inv l o c 1) (.exit 0) (max_out l o c) 1 :=
  tri_up (max_inv l o c) (ne_normal_exit 0) l.length (fun k hk => max_round l o c k hk hl) (max_last l o c hl) 1 h0

theorem max_meets (l : List Int) (o c : Nat) (h0 : 1 ≤ l.length) (hl : l.length < 9223372036854775808) : Meets Try.prog 77 [AV.slice 0 o l.length c] [AObj.ro o (ints .u8 l)] (jU (maxU l l.length)) [AObj.ro o (ints .u8 l)] := by
  exact meets_run (fn := Try.f77) 0 [rG [], rG [hhB 2 false], rG [hhV 1 (jP 0 o), hhV 2 (jU (l.getD 0 0))], rG [], .loop (⟨[some (AV.slice 0 o l.length c), none, none, some (jU (maxU l 1)), sI ((1 : Nat) : Int), none, none, none, none, none, none, none, none, none, none, none, none, none, none, none, none, none, none, none, none], [some (AObj.ro o (ints .u8 l))]⟩) (.exit 0) (⟨[none, none, none, some (jU (maxU l l.length)), none, none, none, none, none, none, none, none, none, none, none, none, none, none, none, none, none, none, none, none, none], [some (AObj.ro o (ints .u8 l))]⟩), rG []] [{}] Try.func77 (by kernel_rfl) Try.call77
    (oA (oS (show AV.bool (decide (((l.length : Nat) : Int) < 1)) = jB false from bF (by omega))) <| oA (oS (show 0 ≤ (0 : Int) from by decide)) <| oA (oS (show (0 : Int) < ((l.length : Nat) : Int) from by omega)) <| oA (oS (show AV.ptr 0 (o + Int.toNat (0 : Int) * 1) = jP 0 o from ptrE (by omega))) <| oA (oS (show o ≤ o from by omega)) <| oA (oS (show (ints .u8 l : List AV)[o - o]? = some (jU (l.getD 0 0)) from ints_at [] (by simp only [List.length_nil, List.length_cons] <;> omega) (by omega))) <| oA (oR [AV.slice 0 o l.length c]) <| oA (oS (show jU (l.getD 0 0) = jU (maxU l 1) from intE (by simp only [maxU]; omega))) <| oA (oR [jI 1]) <| oA (oQ [AObj.ro o (ints .u8 l)]) <| oS (show Tri Try.prog (.loop (loopN (bodyOf Try.f77) 0)) (⟨[some (AV.slice 0 o l.length c), none, none, some (jU (maxU l 1)), sI ((1 : Nat) : Int), none, none, none, none, none, none, none, none, none, none, none, none, none, none, none, none, none, none, none, none], [some (AObj.ro o (ints .u8 l))]⟩) (.exit 0) (⟨[none, none, none, some (jU (maxU l l.length)), none, none, none, none, none, none, none, none, none, none, none, none, none, none, none, none, none, none, none, none, none], [some (AObj.ro o (ints .u8 l))]⟩) 1 from max_loop l o c h0 hl))
    (oA (oS (@rfl _ (jU (maxU l l.length)))) <| oA (oS (show AObj.ro o (ints .u8 l) = AObj.ro o (ints .u8 l) from rfl)) <| oS (show AvoidO (fun n => decide (1 ≤ n)) (AObj.ro o (ints .u8 l)) from AvoidO.ro (AvoidL.ints _ _ _))) (by kernel_rfl)

theorem none_meets (l : List Int) (o c : Nat) (h0 : 1 ≤ l.length) (hl : l.length < 9223372036854775808) (hd : Dig l) : Meets Try.prog 59 [AV.slice 0 o l.length c] [AObj.ro o (ints .u8 l)] (jB (decide (val l = 0))) [AObj.ro o (ints .u8 l)] := by
  exact meets_run (fn := Try.f59) 0 [rG [], rG [(1, {call := some ⟨[0], [AV.slice 0 o l.length c], [AObj.ro o (ints .u8 l)], jU (maxU l l.length), [AObj.ro o (ints .u8 l)]⟩, obj := some [AObj.ro o (ints .u8 l)]})]] [{}] Try.func59 (by kernel_rfl) Try.call59
    (oA (oS (show [AV.slice 0 o l.length c] = renL [0] [AV.slice 0 o l.length c] from rfl)) <| oA (oS (show Meets Try.prog 77 [AV.slice 0 o l.length c] [AObj.ro o (ints .u8 l)] (jU (maxU l l.length)) [AObj.ro o (ints .u8 l)] from max_meets l o c h0 hl)) <| oA (oS (show Fits (AObj.ro o (ints .u8 l)) (AObj.ren [0] (AObj.ro o (ints .u8 l))) from Fits.of_eq (by simp only [AObj.ren, renL, AV.ren, renL_ints, renL_u8s, renL_append]))) <| oS (show updOf [0] [AObj.ro o (ints .u8 l)] [AObj.ro o (ints .u8 l)] [AObj.ro o (ints .u8 l)] ++ List.map (fun x => x.ren [0]) (List.drop 1 [AObj.ro o (ints .u8 l)]) = [AObj.ro o (ints .u8 l)] from rfl))
    (oA (oS (show jB ((maxU l l.length) == 0) = jB (decide (val l = 0)) from boolE (by rw [Bool.eq_iff_iff]; simp [maxU_val hd h0]))) <| oA (oS (show AObj.ro o (ints .u8 l) = AObj.ro o (ints .u8 l) from rfl)) <| oS (show AvoidO (fun n => decide (1 ≤ n)) (AObj.ro o (ints .u8 l)) from AvoidO.ro (AvoidL.ints _ _ _))) (by kernel_rfl)

end Go.Proofs.Ytmgiefeggkikcaa
