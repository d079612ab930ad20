import Derived.Test.YtmgiefeggkikcaaRfC
set_option linter.unusedVariables false
set_option linter.unusedSimpArgs false
set_option maxRecDepth 20000
namespace Go.Proofs.Ytmgiefeggkikcaa.Rr
open Go Sx Rf

theorem div_top {a k : Nat} : a / 10 ^ k = 10 * (a / 10 ^ (k + 1)) + a / 10 ^ k % 10 := by rw [div_pow_succ]; omega
theorem nd_div {a : Nat} : a / 10 ^ nd a = 0 := Nat.div_eq_of_lt (lt_nd a)
theorem less_at {a b k : Nat} (h : a / 10 ^ (k + 1) = b / 10 ^ (k + 1)) (hd : ¬ ((a / 10 ^ k % 10 : Nat) : Int) = ((b / 10 ^ k % 10 : Nat) : Int)) : (((a / 10 ^ k % 10 : Nat) : Int) < ((b / 10 ^ k % 10 : Nat) : Int)) ↔ a < b := by
  have h1 := div_top (a := a) (k := k)
  have h2 := div_top (a := b) (k := k)
  rw [h] at h1
  have hp : 0 < 10 ^ k := Nat.pow_pos (by decide)
  constructor
  · intro h3
    rcases Nat.lt_or_ge a b with h4 | h4
    · exact h4
    · have := Nat.div_le_div_right (c := 10 ^ k) h4; omega
  · intro h3
    have := Nat.div_le_div_right (c := 10 ^ k) (Nat.le_of_lt h3); omega
theorem nd_less {a b : Nat} (h : nd a < nd b) : a < b := by
  rcases Nat.lt_or_ge a b with h4 | h4
  · exact h4
  · have := nd_mono h4; omega

def less_inv (a b k : Nat) : AState :=
  ⟨[some (AV.dsl 0 (nd a)), some (AV.dsl 1 (nd b)), none, none, none, sI ((k : Nat) : Int), none, none, none, none, none, none, none, none, none, none, none, none, none, none, none, none, none, none, none, none, none, none, none, none, none, none, none, none, none, none, none, none, none, none, none], [some (FL a), some (FL b)]⟩

def less_done (a b : Nat) : AState :=
  ⟨[some (AV.dsl 0 (nd a)), some (AV.dsl 1 (nd b)), none, none, none, sI (-1), none, none, none, none, none, none, none, none, none, none, none, none, none, none, none, none, none, none, none, none, none, none, none, none, none, none, none, none, none, none, none, none, none, none, none], [some (FL a), some (FL b)]⟩

theorem getDg {a k : Nat} (h : k < nd a) : (ints .i64 (dg a))[k]? = some (AV.int .i64 ((a / 10 ^ k % 10 : Nat) : Int)) := by
  rw [ints_get (by rw [dg_length]; exact h), dg_getD]

theorem less_round (a b k : Nat) (ha : nd a < 1000000) (hk : k + 1 < nd a) (he : nd a = nd b) (hd : ((a / 10 ^ (k + 1) % 10 : Nat) : Int) = ((b / 10 ^ (k + 1) % 10 : Nat) : Int))  : Tri Try.prog (loopN (bodyOf Try.f40) 0) (less_inv a b (k + 1)) .normal (less_inv a b k) 2 := by
  exact tri_weak [rG [hhB 1 true], rG [hhV 2 (AV.dptr 0 (k + 1)), hhI 3 ((a / 10 ^ (k + 1) % 10 : Nat) : Int), hhV 6 (AV.dptr 1 (k + 1)), hhI 7 ((b / 10 ^ (k + 1) % 10 : Nat) : Int), hhB 8 false], rG [hhI 1 ((k : Nat) : Int)]]
    (oA (oS (show AV.bool (decide (((k + 1 : Nat) : Int) ≥ 0)) = jB true from bT (by omega))) <| oA (oS (show 0 ≤ ((k + 1 : Nat) : Int) from by omega)) <| oA (oS (show ((k + 1 : Nat) : Int) < (((nd a) : Nat) : Int) from by omega)) <| oA (oS (show AV.dptr 0 (Int.toNat ((k + 1 : Nat) : Int) * 1) = AV.dptr 0 (k + 1) from dptrE (by omega))) <| oA (oS (show (ints .i64 (dg a) : List AV)[(k + 1)]? = some (jI ((a / 10 ^ (k + 1) % 10 : Nat) : Int)) from getDg (by omega))) <| oA (oS (show 0 ≤ ((k + 1 : Nat) : Int) from by omega)) <| oA (oS (show ((k + 1 : Nat) : Int) < (((nd b) : Nat) : Int) from by omega)) <| oA (oS (show AV.dptr 1 (Int.toNat ((k + 1 : Nat) : Int) * 1) = AV.dptr 1 (k + 1) from dptrE (by omega))) <| oA (oS (show (ints .i64 (dg b) : List AV)[(k + 1)]? = some (jI ((b / 10 ^ (k + 1) % 10 : Nat) : Int)) from getDg (by omega))) <| oA (oS (show AV.bool (((a / 10 ^ (k + 1) % 10 : Nat) : Int) != ((b / 10 ^ (k + 1) % 10 : Nat) : Int)) = jB false from neF hd)) <| oW (((k + 1 : Nat) : Int) - 1) ((k : Nat) : Int) (by omega))
    (oA (oR [AV.dsl 0 (nd a), AV.dsl 1 (nd b), jI ((k : Nat) : Int)]) <| oA (oS (show sameF (FL a) (FL a) from sameF_ints (by simp))) <| oS (show sameF (FL b) (FL b) from sameF_ints (by simp))) (by kernel_rfl)

theorem less_round0 (a b : Nat) (ha : nd a < 1000000) (hk : 0 < nd a) (he : nd a = nd b) (hd : ((a / 10 ^ 0 % 10 : Nat) : Int) = ((b / 10 ^ 0 % 10 : Nat) : Int))  : Tri Try.prog (loopN (bodyOf Try.f40) 0) (less_inv a b 0) .normal (less_done a b) 2 := by
  exact tri_weak [rG [hhB 1 true], rG [hhV 2 (AV.dptr 0 0), hhI 3 ((a / 10 ^ 0 % 10 : Nat) : Int), hhV 6 (AV.dptr 1 0), hhI 7 ((b / 10 ^ 0 % 10 : Nat) : Int), hhB 8 false], rG [hhI 1 (-1)]]
    (oA (oS (show AV.bool (decide (((0 : Nat) : Int) ≥ 0)) = jB true from bT (by omega))) <| oA (oS (show 0 ≤ ((0 : Nat) : Int) from by omega)) <| oA (oS (show ((0 : Nat) : Int) < (((nd a) : Nat) : Int) from by omega)) <| oA (oS (show AV.dptr 0 (Int.toNat ((0 : Nat) : Int) * 1) = AV.dptr 0 0 from by kernel_rfl)) <| oA (oS (show (ints .i64 (dg a) : List AV)[0]? = some (jI ((a / 10 ^ 0 % 10 : Nat) : Int)) from getDg (by omega))) <| oA (oS (show 0 ≤ ((0 : Nat) : Int) from by omega)) <| oA (oS (show ((0 : Nat) : Int) < (((nd b) : Nat) : Int) from by omega)) <| oA (oS (show AV.dptr 1 (Int.toNat ((0 : Nat) : Int) * 1) = AV.dptr 1 0 from by kernel_rfl)) <| oA (oS (show (ints .i64 (dg b) : List AV)[0]? = some (jI ((b / 10 ^ 0 % 10 : Nat) : Int)) from getDg (by omega))) <| oA (oS (show AV.bool (((a / 10 ^ 0 % 10 : Nat) : Int) != ((b / 10 ^ 0 % 10 : Nat) : Int)) = jB false from neF hd)) <| oW (((0 : Nat) : Int) - 1) (-1) (by omega))
    (oA (oR [AV.dsl 0 (nd a), AV.dsl 1 (nd b), jI (-1)]) <| oA (oS (show sameF (FL a) (FL a) from sameF_ints (by simp))) <| oS (show sameF (FL b) (FL b) from sameF_ints (by simp))) (by kernel_rfl)

theorem less_last (a b : Nat) : Tri Try.prog (loopN (bodyOf Try.f40) 0) (less_done a b) (.exit 0) (less_done a b) 2 := by
  exact tri_weak [rG [hhB 1 false]]
    (oS (show AV.bool (decide (((-1) : Int) ≥ 0)) = jB false from boolE (by decide)))
    (oA (oR [AV.dsl 0 (nd a), AV.dsl 1 (nd b), jI (-1)]) <| oA (oS (show sameF (FL a) (FL a) from sameF_ints (by simp))) <| oS (show sameF (FL b) (FL b) from sameF_ints (by simp))) (by kernel_rfl)

def less_ret (a b : Nat) : AState :=
  ⟨[none, none, none, none, sB (decide (a < b)), none, none, none, none, none, none, none, none, none, none, none, none, none, none, none, none, none, none, none, none, none, none, none, none, none, none, none, none, none, none, none, none, none, none, none, none], [some (FL a), some (FL b)]⟩

theorem less_diff (a b k : Nat) (ha : nd a < 1000000) (hk : k < nd a) (he : nd a = nd b) (hh : a / 10 ^ (k + 1) = b / 10 ^ (k + 1)) (hd : ¬ ((a / 10 ^ k % 10 : Nat) : Int) = ((b / 10 ^ k % 10 : Nat) : Int)) : Tri Try.prog (loopN (bodyOf Try.f40) 0) (less_inv a b k) .ret (less_ret a b) 2 := by
  exact tri_weak [rG [hhB 1 true], rG [hhV 2 (AV.dptr 0 k), hhI 3 ((a / 10 ^ k % 10 : Nat) : Int), hhV 6 (AV.dptr 1 k), hhI 7 ((b / 10 ^ k % 10 : Nat) : Int), hhB 8 true], rG [hhV 2 (AV.dptr 0 k), hhI 3 ((a / 10 ^ k % 10 : Nat) : Int), hhV 6 (AV.dptr 1 k), hhI 7 ((b / 10 ^ k % 10 : Nat) : Int)]]
    (oA (oS (show AV.bool (decide (((k : Nat) : Int) ≥ 0)) = jB true from bT (by omega))) <| oA (oS (show 0 ≤ ((k : Nat) : Int) from by omega)) <| oA (oS (show ((k : Nat) : Int) < (((nd a) : Nat) : Int) from by omega)) <| oA (oS (show AV.dptr 0 (Int.toNat ((k : Nat) : Int) * 1) = AV.dptr 0 k from dptrE (by omega))) <| oA (oS (show (ints .i64 (dg a) : List AV)[k]? = some (jI ((a / 10 ^ k % 10 : Nat) : Int)) from getDg (by omega))) <| oA (oS (show 0 ≤ ((k : Nat) : Int) from by omega)) <| oA (oS (show ((k : Nat) : Int) < (((nd b) : Nat) : Int) from by omega)) <| oA (oS (show AV.dptr 1 (Int.toNat ((k : Nat) : Int) * 1) = AV.dptr 1 k from dptrE (by omega))) <| oA (oS (show (ints .i64 (dg b) : List AV)[k]? = some (jI ((b / 10 ^ k % 10 : Nat) : Int)) from getDg (by omega))) <| oA (oS (show AV.bool (((a / 10 ^ k % 10 : Nat) : Int) != ((b / 10 ^ k % 10 : Nat) : Int)) = jB true from neT hd)) <| oA (oS (show 0 ≤ ((k : Nat) : Int) from by omega)) <| oA (oS (show ((k : Nat) : Int) < (((nd a) : Nat) : Int) from by omega)) <| oA (oS (show AV.dptr 0 (Int.toNat ((k : Nat) : Int) * 1) = AV.dptr 0 k from dptrE (by omega))) <| oA (oS (show (ints .i64 (dg a) : List AV)[k]? = some (jI ((a / 10 ^ k % 10 : Nat) : Int)) from getDg (by omega))) <| oA (oS (show 0 ≤ ((k : Nat) : Int) from by omega)) <| oA (oS (show ((k : Nat) : Int) < (((nd b) : Nat) : Int) from by omega)) <| oA (oS (show AV.dptr 1 (Int.toNat ((k : Nat) : Int) * 1) = AV.dptr 1 k from dptrE (by omega))) <| oS (show (ints .i64 (dg b) : List AV)[k]? = some (jI ((b / 10 ^ k % 10 : Nat) : Int)) from getDg (by omega)))
    (oA (oS (show jB (decide (((a / 10 ^ k % 10 : Nat) : Int) < ((b / 10 ^ k % 10 : Nat) : Int))) = jB (decide (a < b)) from boolE (decide_eq_decide.2 (less_at hh hd)))) <| oA (oS (show sameF (FL a) (FL a) from sameF_ints (by simp))) <| oS (show sameF (FL b) (FL b) from sameF_ints (by simp))) (by kernel_rfl)

def lessAt (a b : Nat) : Nat → AState
  | 0 => less_done a b
  | k + 1 => less_inv a b k
theorem less_same (a b : Nat) (ha : nd a < 1000000) (he : nd a = nd b) (h : a = b) : Tri Try.prog (.loop (loopN (bodyOf Try.f40) 0)) (lessAt a b (nd a)) (.exit 0) (less_done a b) 2 :=
  tri_down (lessAt a b) (ne_normal_exit 0) (nd a) (fun k hk => by
    cases k with
    | zero => exact less_round0 a b ha hk he (by rw [h])
    | succ k => exact less_round a b k ha hk he (by rw [h])) (less_last a b) (nd a) (Nat.le_refl _)
theorem less_find (a b : Nat) (ha : nd a < 1000000) (he : nd a = nd b) (h : ¬ a = b) : Tri Try.prog (.loop (loopN (bodyOf Try.f40) 0)) (lessAt a b (nd a)) .ret (less_ret a b) 2 :=
  tri_loop (ι := {m : Nat // m ≤ nd a ∧ a / 10 ^ m = b / 10 ^ m}) (fun m => lessAt a b m.1) (fun m => m.1) ne_normal_ret (by
    rintro ⟨m, h1, h2⟩
    cases m with
    | zero => simp at h2; exact absurd h2 h
    | succ k =>
      by_cases hd : ((a / 10 ^ k % 10 : Nat) : Int) = ((b / 10 ^ k % 10 : Nat) : Int)
      · have h3 : a / 10 ^ k = b / 10 ^ k := by
          have h4 := div_top (a := a) (k := k)
          have h5 := div_top (a := b) (k := k)
          have h2 : a / 10 ^ (k + 1) = b / 10 ^ (k + 1) := h2
          omega
        have h1 : k + 1 ≤ nd a := h1
        refine .inl ⟨⟨k, by omega, h3⟩, Nat.lt_succ_self k, ?_⟩

        cases k with
        | zero => exact less_round0 a b ha h1 he hd
        | succ k => exact less_round a b k ha h1 he hd
      · exact .inr (less_diff a b k ha h1 he h2 hd)) ⟨nd a, Nat.le_refl _, by rw [nd_div, he, nd_div]⟩

theorem less_meets (a b : Nat) (ha : nd a < 1000000) (hb : nd b < 1000000) : Meets Try.prog 40 [AV.dsl 0 (nd a), AV.dsl 1 (nd b)] [FL a, FL b] (jB (decide (a < b))) [FL a, FL b] := by
  let q1 : List Orc := [rG []]
  by_cases c1 : (((nd a) : Nat) : Int) = (((nd b) : Nat) : Int)
  · have o1 := oA (oS (neF c1)) <| oW ((((nd a) : Nat) : Int) - 1) (((nd a : Nat) : Int) - 1) (by omega)
    let q2 : List Orc := [rG [hhB 4 false], rG [hhI 2 (((nd a : Nat) : Int) - 1)]]
    by_cases c2 : nd a = 0
    · by_cases c3 : a = b
      · exact meets_run (fn := Try.f40) 0 (q1 ++ (q2 ++ [.loop (⟨[some (AV.dsl 0 (nd a)), some (AV.dsl 1 (nd b)), none, none, none, sI (-1), none, none, none, none, none, none, none, none, none, none, none, none, none, none, none, none, none, none, none, none, none, none, none, none, none, none, none, none, none, none, none, none, none, none, none], [some (FL a), some (FL b)]⟩) (.exit 0) (⟨[some (AV.dsl 0 (nd a)), some (AV.dsl 1 (nd b)), none, none, none, sI (-1), none, none, none, none, none, none, none, none, none, none, none, none, none, none, none, none, none, none, none, none, none, none, none, none, none, none, none, none, none, none, none, none, none, none, none], [some (FL a), some (FL b)]⟩), rG []])) [{}] Try.func40 (by kernel_rfl) Try.call40
          (oA o1 <| oA (oR [AV.dsl 0 (nd a), AV.dsl 1 (nd b)]) <| oA (oS (show jI (((nd a : Nat) : Int) - 1) = jI (-1) from intE (by omega))) <| oA (oS (show sameF (FL a) (FL a) from sameF_ints (by simp))) <| oA (oS (show sameF (FL b) (FL b) from sameF_ints (by simp))) <| oS (show Tri Try.prog (.loop (loopN (bodyOf Try.f40) 0)) (⟨[some (AV.dsl 0 (nd a)), some (AV.dsl 1 (nd b)), none, none, none, sI (-1), none, none, none, none, none, none, none, none, none, none, none, none, none, none, none, none, none, none, none, none, none, none, none, none, none, none, none, none, none, none, none, none, none, none, none], [some (FL a), some (FL b)]⟩) (.exit 0) (⟨[some (AV.dsl 0 (nd a)), some (AV.dsl 1 (nd b)), none, none, none, sI (-1), none, none, none, none, none, none, none, none, none, none, none, none, none, none, none, none, none, none, none, none, none, none, none, none, none, none, none, none, none, none, none, none, none, none, none], [some (FL a), some (FL b)]⟩) 2 from by have h := less_same a b ha (by omega) c3; rw [c2] at h; exact h))
          (oA (oS (show jB false = jB (decide (a < b)) from boolE (by first | rfl | exact decide_eq_decide.2 ⟨fun h => nd_less (by omega), fun h => by have := nd_mono (Nat.le_of_lt h); omega⟩ | (symm; simp only [decide_eq_false_iff_not, decide_eq_true_eq]; first | omega | exact nd_less (by omega) | (intro hh; have := nd_mono (Nat.le_of_lt hh); omega))))) <| oA (oS (show Fits (FL a) (FL a) from Fits.refl _)) <| oA (oS (show AvoidO (fun n => decide (2 ≤ n)) (FL a) from AvoidO.flat (AvoidL.ints _ _ _))) <| oA (oS (show Fits (FL b) (FL b) from Fits.refl _)) <| oS (show AvoidO (fun n => decide (2 ≤ n)) (FL b) from AvoidO.flat (AvoidL.ints _ _ _))) (by kernel_rfl)
      · exact meets_run (fn := Try.f40) 0 (q1 ++ (q2 ++ [.loop (⟨[some (AV.dsl 0 (nd a)), some (AV.dsl 1 (nd b)), none, none, none, sI (-1), none, none, none, none, none, none, none, none, none, none, none, none, none, none, none, none, none, none, none, none, none, none, none, none, none, none, none, none, none, none, none, none, none, none, none], [some (FL a), some (FL b)]⟩) .ret (⟨[none, none, none, none, sB (decide (a < b)), none, none, none, none, none, none, none, none, none, none, none, none, none, none, none, none, none, none, none, none, none, none, none, none, none, none, none, none, none, none, none, none, none, none, none, none], [some (FL a), some (FL b)]⟩)])) [{}] Try.func40 (by kernel_rfl) Try.call40
          (oA o1 <| oA (oR [AV.dsl 0 (nd a), AV.dsl 1 (nd b)]) <| oA (oS (show jI (((nd a : Nat) : Int) - 1) = jI (-1) from intE (by omega))) <| oA (oS (show sameF (FL a) (FL a) from sameF_ints (by simp))) <| oA (oS (show sameF (FL b) (FL b) from sameF_ints (by simp))) <| oS (show Tri Try.prog (.loop (loopN (bodyOf Try.f40) 0)) (⟨[some (AV.dsl 0 (nd a)), some (AV.dsl 1 (nd b)), none, none, none, sI (-1), none, none, none, none, none, none, none, none, none, none, none, none, none, none, none, none, none, none, none, none, none, none, none, none, none, none, none, none, none, none, none, none, none, none, none], [some (FL a), some (FL b)]⟩) .ret (⟨[none, none, none, none, sB (decide (a < b)), none, none, none, none, none, none, none, none, none, none, none, none, none, none, none, none, none, none, none, none, none, none, none, none, none, none, none, none, none, none, none, none, none, none, none, none], [some (FL a), some (FL b)]⟩) 2 from by have h := less_find a b ha (by omega) c3; rw [c2] at h; exact h))
          (oA (oS (show jB (decide (a < b)) = jB (decide (a < b)) from boolE (by first | rfl | exact decide_eq_decide.2 ⟨fun h => nd_less (by omega), fun h => by have := nd_mono (Nat.le_of_lt h); omega⟩ | (symm; simp only [decide_eq_false_iff_not, decide_eq_true_eq]; first | omega | exact nd_less (by omega) | (intro hh; have := nd_mono (Nat.le_of_lt hh); omega))))) <| oA (oS (show Fits (FL a) (FL a) from Fits.refl _)) <| oA (oS (show AvoidO (fun n => decide (2 ≤ n)) (FL a) from AvoidO.flat (AvoidL.ints _ _ _))) <| oA (oS (show Fits (FL b) (FL b) from Fits.refl _)) <| oS (show AvoidO (fun n => decide (2 ≤ n)) (FL b) from AvoidO.flat (AvoidL.ints _ _ _))) (by kernel_rfl)
    · by_cases c3 : a = b
      · exact meets_run (fn := Try.f40) 0 (q1 ++ (q2 ++ [.loop (⟨[some (AV.dsl 0 (nd a)), some (AV.dsl 1 (nd b)), none, none, none, sI ((nd a - 1 : Nat) : Int), none, none, none, none, none, none, none, none, none, none, none, none, none, none, none, none, none, none, none, none, none, none, none, none, none, none, none, none, none, none, none, none, none, none, none], [some (FL a), some (FL b)]⟩) (.exit 0) (⟨[some (AV.dsl 0 (nd a)), some (AV.dsl 1 (nd b)), none, none, none, sI (-1), none, none, none, none, none, none, none, none, none, none, none, none, none, none, none, none, none, none, none, none, none, none, none, none, none, none, none, none, none, none, none, none, none, none, none], [some (FL a), some (FL b)]⟩), rG []])) [{}] Try.func40 (by kernel_rfl) Try.call40
          (oA o1 <| oA (oR [AV.dsl 0 (nd a), AV.dsl 1 (nd b)]) <| oA (oS (show jI (((nd a : Nat) : Int) - 1) = jI ((nd a - 1 : Nat) : Int) from intE (by omega))) <| oA (oS (show sameF (FL a) (FL a) from sameF_ints (by simp))) <| oA (oS (show sameF (FL b) (FL b) from sameF_ints (by simp))) <| oS (show Tri Try.prog (.loop (loopN (bodyOf Try.f40) 0)) (⟨[some (AV.dsl 0 (nd a)), some (AV.dsl 1 (nd b)), none, none, none, sI ((nd a - 1 : Nat) : Int), none, none, none, none, none, none, none, none, none, none, none, none, none, none, none, none, none, none, none, none, none, none, none, none, none, none, none, none, none, none, none, none, none, none, none], [some (FL a), some (FL b)]⟩) (.exit 0) (⟨[some (AV.dsl 0 (nd a)), some (AV.dsl 1 (nd b)), none, none, none, sI (-1), none, none, none, none, none, none, none, none, none, none, none, none, none, none, none, none, none, none, none, none, none, none, none, none, none, none, none, none, none, none, none, none, none, none, none], [some (FL a), some (FL b)]⟩) 2 from by have h := less_same a b ha (by omega) c3; rw [show nd a = nd a - 1 + 1 by omega] at h; exact h))
          (oA (oS (show jB false = jB (decide (a < b)) from boolE (by first | rfl | exact decide_eq_decide.2 ⟨fun h => nd_less (by omega), fun h => by have := nd_mono (Nat.le_of_lt h); omega⟩ | (symm; simp only [decide_eq_false_iff_not, decide_eq_true_eq]; first | omega | exact nd_less (by omega) | (intro hh; have := nd_mono (Nat.le_of_lt hh); omega))))) <| oA (oS (show Fits (FL a) (FL a) from Fits.refl _)) <| oA (oS (show AvoidO (fun n => decide (2 ≤ n)) (FL a) from AvoidO.flat (AvoidL.ints _ _ _))) <| oA (oS (show Fits (FL b) (FL b) from Fits.refl _)) <| oS (show AvoidO (fun n => decide (2 ≤ n)) (FL b) from AvoidO.flat (AvoidL.ints _ _ _))) (by kernel_rfl)
      · exact meets_run (fn := Try.f40) 0 (q1 ++ (q2 ++ [.loop (⟨[some (AV.dsl 0 (nd a)), some (AV.dsl 1 (nd b)), none, none, none, sI ((nd a - 1 : Nat) : Int), none, none, none, none, none, none, none, none, none, none, none, none, none, none, none, none, none, none, none, none, none, none, none, none, none, none, none, none, none, none, none, none, none, none, none], [some (FL a), some (FL b)]⟩) .ret (⟨[none, none, none, none, sB (decide (a < b)), none, none, none, none, none, none, none, none, none, none, none, none, none, none, none, none, none, none, none, none, none, none, none, none, none, none, none, none, none, none, none, none, none, none, none, none], [some (FL a), some (FL b)]⟩)])) [{}] Try.func40 (by kernel_rfl) Try.call40
          (oA o1 <| oA (oR [AV.dsl 0 (nd a), AV.dsl 1 (nd b)]) <| oA (oS (show jI (((nd a : Nat) : Int) - 1) = jI ((nd a - 1 : Nat) : Int) from intE (by omega))) <| oA (oS (show sameF (FL a) (FL a) from sameF_ints (by simp))) <| oA (oS (show sameF (FL b) (FL b) from sameF_ints (by simp))) <| oS (show Tri Try.prog (.loop (loopN (bodyOf Try.f40) 0)) (⟨[some (AV.dsl 0 (nd a)), some (AV.dsl 1 (nd b)), none, none, none, sI ((nd a - 1 : Nat) : Int), none, none, none, none, none, none, none, none, none, none, none, none, none, none, none, none, none, none, none, none, none, none, none, none, none, none, none, none, none, none, none, none, none, none, none], [some (FL a), some (FL b)]⟩) .ret (⟨[none, none, none, none, sB (decide (a < b)), none, none, none, none, none, none, none, none, none, none, none, none, none, none, none, none, none, none, none, none, none, none, none, none, none, none, none, none, none, none, none, none, none, none, none, none], [some (FL a), some (FL b)]⟩) 2 from by have h := less_find a b ha (by omega) c3; rw [show nd a = nd a - 1 + 1 by omega] at h; exact h))
          (oA (oS (show jB (decide (a < b)) = jB (decide (a < b)) from boolE (by first | rfl | exact decide_eq_decide.2 ⟨fun h => nd_less (by omega), fun h => by have := nd_mono (Nat.le_of_lt h); omega⟩ | (symm; simp only [decide_eq_false_iff_not, decide_eq_true_eq]; first | omega | exact nd_less (by omega) | (intro hh; have := nd_mono (Nat.le_of_lt hh); omega))))) <| oA (oS (show Fits (FL a) (FL a) from Fits.refl _)) <| oA (oS (show AvoidO (fun n => decide (2 ≤ n)) (FL a) from AvoidO.flat (AvoidL.ints _ _ _))) <| oA (oS (show Fits (FL b) (FL b) from Fits.refl _)) <| oS (show AvoidO (fun n => decide (2 ≤ n)) (FL b) from AvoidO.flat (AvoidL.ints _ _ _))) (by kernel_rfl)
  · exact meets_run (fn := Try.f40) 0 (q1 ++ [rG [hhB 4 true], rG []]) [{}] Try.func40 (by kernel_rfl) Try.call40
      (oS (neT c1))
      (oA (oS (show jB (decide ((((nd a) : Nat) : Int) < (((nd b) : Nat) : Int))) = jB (decide (a < b)) from boolE (by first | rfl | exact decide_eq_decide.2 ⟨fun h => nd_less (by omega), fun h => by have := nd_mono (Nat.le_of_lt h); omega⟩ | (symm; simp only [decide_eq_false_iff_not, decide_eq_true_eq]; first | omega | exact nd_less (by omega) | (intro hh; have := nd_mono (Nat.le_of_lt hh); omega))))) <| oA (oS (show Fits (FL a) (FL a) from Fits.refl _)) <| oA (oS (show AvoidO (fun n => decide (2 ≤ n)) (FL a) from AvoidO.flat (AvoidL.ints _ _ _))) <| oA (oS (show Fits (FL b) (FL b) from Fits.refl _)) <| oS (show AvoidO (fun n => decide (2 ≤ n)) (FL b) from AvoidO.flat (AvoidL.ints _ _ _))) (by kernel_rfl)

end Go.Proofs.Ytmgiefeggkikcaa.Rr
