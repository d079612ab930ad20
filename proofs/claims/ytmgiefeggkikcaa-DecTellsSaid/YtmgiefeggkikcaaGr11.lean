import Derived.Test.YtmgiefeggkikcaaGr10
import Derived.Test.YtmgiefeggkikcaaGr05
import Derived.Test.YtmgiefeggkikcaaGr07
import Derived.Test.YtmgiefeggkikcaaGr08
set_option linter.unusedVariables false
set_option linter.unusedSimpArgs false
set_option maxRecDepth 20000
namespace Go.Proofs.Ytmgiefeggkikcaa.Rr
open Go Sx Rf
theorem nd_mul {a b : Nat} : nd (a * b) ≤ nd a + nd b := by
  apply nd_le
  rw [Nat.pow_add]
  exact Nat.mul_lt_mul'' (lt_nd a) (lt_nd b)
theorem times_step {a b k : Nat} : a / 10 ^ (k + 1) * b * 10 + a / 10 ^ k % 10 * b = a / 10 ^ k * b := by
  have h := div_top (a := a) (k := k)
  rw [Nat.mul_right_comm, ← Nat.add_mul]
  congr 1; omega
theorem times_le {a b k d : Nat} (h : d ≤ a / 10 ^ k % 10) : a / 10 ^ (k + 1) * b * 10 + d * b ≤ a * b := by
  have h1 := times_step (a := a) (b := b) (k := k)
  have h2 : d * b ≤ a / 10 ^ k % 10 * b := Nat.mul_le_mul_right b h
  have h3 : a / 10 ^ k * b ≤ a * b := Nat.mul_le_mul_right b (Nat.div_le_self a _)
  omega
theorem times_nd {a b k d : Nat} (h : d ≤ a / 10 ^ k % 10) : nd (a / 10 ^ (k + 1) * b * 10 + d * b) ≤ nd a + nd b := Nat.le_trans (nd_mono (times_le h)) nd_mul
theorem ten_one (a : Nat) (ha : nd a < 1000000) : Meets Try.prog 38 [AV.dsl 0 (nd a), jI 1] [FL a] (AV.dsl 1 (nd (a * 10))) [FL a, FT (a * 10)] := by
  have h := ten_meets a 1 ha (by omega)
  rw [show (10 : Nat) ^ (1 : Int).toNat = 10 from rfl] at h
  exact h
theorem ten_nat (a n : Nat) (ha : nd a < 1000000) (hn : n < 1000000) : Meets Try.prog 38 [AV.dsl 0 (nd a), jI ((n : Nat) : Int)] [FL a] (AV.dsl 1 (nd (a * 10 ^ n))) [FL a, FT (a * 10 ^ n)] := by
  have h := ten_meets a n ha (by omega)
  rw [Int.toNat_natCast] at h
  exact h
def times_inv (a b k : Nat) : AState :=
  ⟨([some (AV.dsl 0 (nd a)), some (AV.dsl 1 (nd b)), none, none, none, some (AV.dsl 2 (nd (a / 10 ^ (k + 1) * b))), sI ((k : Nat) : Int)] ++ nn 22), [some (FL a), some (FL b), some (FT (a / 10 ^ (k + 1) * b)), none, none]⟩
def times_done (a b : Nat) : AState :=
  ⟨([some (AV.dsl 0 (nd a)), some (AV.dsl 1 (nd b)), none, none, none, some (AV.dsl 2 (nd (a * b))), sI (-1)] ++ nn 22), [some (FL a), some (FL b), some (FT (a * b)), none, none]⟩
def times_in (a b k d : Nat) : AState :=
  ⟨([some (AV.dsl 0 (nd a)), some (AV.dsl 1 (nd b)), none, none, none, some (AV.dsl 3 (nd ((a / 10 ^ (k + 1) * b) * 10 + d * b))), sI ((k : Nat) : Int), sI ((d : Nat) : Int)] ++ nn 21), [some (FL a), some (FL b), some (AObj.dead), some (FT ((a / 10 ^ (k + 1) * b) * 10 + d * b)), none]⟩
def times_iout (a b k : Nat) : AState :=
  ⟨([some (AV.dsl 0 (nd a)), some (AV.dsl 1 (nd b)), none, none, none, some (AV.dsl 3 (nd (a / 10 ^ k * b))), sI ((k : Nat) : Int)] ++ nn 22), [some (FL a), some (FL b), some (AObj.dead), some (FT (a / 10 ^ k * b)), none]⟩
theorem times_iround (a b k d : Nat) (hl : nd a + nd b < 900000) (hk : k < nd a) (hd : d < a / 10 ^ k % 10) : Tri Try.prog (loopN (qzx Try.f73) 1) (times_in a b k d) .normal (times_in a b k (d + 1)) 2 := by
  have hd10 : a / 10 ^ k % 10 < 10 := Nat.mod_lt _ (by decide)
  have hn := times_nd (b := b) (Nat.le_of_lt hd)
  exact tri_ren [0, 1, 2, 4] [rG [hhV 3 (AV.dptr 0 k), hhI 4 ((a / 10 ^ k % 10 : Nat) : Int), hhB 5 true], rG [(2, {call := some ⟨[3, 1, 4], [AV.dsl 0 (nd ((a / 10 ^ (k + 1) * b) * 10 + d * b)), AV.dsl 1 (nd b)], [FL ((a / 10 ^ (k + 1) * b) * 10 + d * b), FL b], AV.dsl 2 (nd (((a / 10 ^ (k + 1) * b) * 10 + d * b) + b)), [FL ((a / 10 ^ (k + 1) * b) * 10 + d * b), FL b, FT (((a / 10 ^ (k + 1) * b) * 10 + d * b) + b)]⟩, val := some (AV.dsl 4 (nd (((a / 10 ^ (k + 1) * b) * 10 + d * b) + b))), obj := some [FT ((a / 10 ^ (k + 1) * b) * 10 + d * b), FL b, FT (((a / 10 ^ (k + 1) * b) * 10 + d * b) + b)]})], rG [hhI 1 ((d + 1 : Nat) : Int)]]
    (oA (oS (show 0 ≤ ((k : Nat) : Int) from by omega)) <| oA (oS (show ((k : Nat) : Int) < (((nd a) : Nat) : Int) from by omega)) <| oA (oS (show AV.dptr 0 (Int.toNat ((k : Nat) : Int) * 1) = AV.dptr 0 k from dptrE (by omega))) <| oA (oS (show (ints .i64 (dg a) : List AV)[k]? = some (jI ((a / 10 ^ k % 10 : Nat) : Int)) from getDg (by omega))) <| oA (oS (show AV.bool (decide (((d : Nat) : Int) < ((a / 10 ^ k % 10 : Nat) : Int))) = jB true from bT (by omega))) <| oA (oS (show [AV.dsl 3 (nd ((a / 10 ^ (k + 1) * b) * 10 + d * b)), AV.dsl 1 (nd b)] = renL [3, 1, 4] [AV.dsl 0 (nd ((a / 10 ^ (k + 1) * b) * 10 + d * b)), AV.dsl 1 (nd b)] from rfl)) <| oA (oS (show Meets Try.prog 68 [AV.dsl 0 (nd ((a / 10 ^ (k + 1) * b) * 10 + d * b)), AV.dsl 1 (nd b)] [FL ((a / 10 ^ (k + 1) * b) * 10 + d * b), FL b] (AV.dsl 2 (nd (((a / 10 ^ (k + 1) * b) * 10 + d * b) + b))) [FL ((a / 10 ^ (k + 1) * b) * 10 + d * b), FL b, FT (((a / 10 ^ (k + 1) * b) * 10 + d * b) + b)] from plus_meets ((a / 10 ^ (k + 1) * b) * 10 + d * b) b (by omega) (by omega))) <| oA (oS (show Fits (FT ((a / 10 ^ (k + 1) * b) * 10 + d * b)) (AObj.ren [3, 1, 4] (FL ((a / 10 ^ (k + 1) * b) * 10 + d * b))) from Fits.ints (by simp))) <| oA (oS (show Fits (FL b) (AObj.ren [3, 1, 4] (FL b)) from Fits.ints (by simp))) <| oA (oS (show AV.ren [3, 1, 4] (AV.dsl 2 (nd (((a / 10 ^ (k + 1) * b) * 10 + d * b) + b))) = AV.dsl 4 (nd (((a / 10 ^ (k + 1) * b) * 10 + d * b) + b)) from rfl)) <| oA (oS (show updOf [3, 1, 4] [FT ((a / 10 ^ (k + 1) * b) * 10 + d * b), FL b] [FL ((a / 10 ^ (k + 1) * b) * 10 + d * b), FL b] [FL ((a / 10 ^ (k + 1) * b) * 10 + d * b), FL b, FT (((a / 10 ^ (k + 1) * b) * 10 + d * b) + b)] ++ List.map (fun x => x.ren [3, 1, 4]) (List.drop 2 [FL ((a / 10 ^ (k + 1) * b) * 10 + d * b), FL b, FT (((a / 10 ^ (k + 1) * b) * 10 + d * b) + b)]) = [FT ((a / 10 ^ (k + 1) * b) * 10 + d * b), FL b, FT (((a / 10 ^ (k + 1) * b) * 10 + d * b) + b)] from by simp only [updOf, AObj.owned, List.map_cons, List.map_nil, List.drop, AObj.ren, qzu, List.nil_append, List.cons_append, if_false, Bool.false_eq_true])) <| oW (((d : Nat) : Int) + 1) ((d + 1 : Nat) : Int) (by omega))
    (oA (oR [AV.dsl 0 (nd a), AV.dsl 1 (nd b)]) <| oA (oS (show AV.dsl 4 (nd (((a / 10 ^ (k + 1) * b) * 10 + d * b) + b)) = AV.ren [0, 1, 2, 4] (AV.dsl 3 (nd ((a / 10 ^ (k + 1) * b) * 10 + (d + 1) * b))) from dslE (by rw [Nat.succ_mul, ← Nat.add_assoc]))) <| oA (oR [jI ((k : Nat) : Int), jI ((d + 1 : Nat) : Int)]) <| oA (oS (show sameF (FL a) (AObj.ren [0, 1, 2, 4] (FL a)) from qxw (by simp))) <| oA (oS (show sameF (FL b) (AObj.ren [0, 1, 2, 4] (FL b)) from qxw (by simp))) <| oS (show sameF (FT (((a / 10 ^ (k + 1) * b) * 10 + d * b) + b)) (AObj.ren [0, 1, 2, 4] (FT ((a / 10 ^ (k + 1) * b) * 10 + (d + 1) * b))) from qxw (by rw [Nat.succ_mul, ← Nat.add_assoc]; simp))) (by kernel_rfl)
theorem times_ilast (a b k : Nat) (hl : nd a + nd b < 900000) (hk : k < nd a)  : Tri Try.prog (loopN (qzx Try.f73) 1) (times_in a b k (a / 10 ^ k % 10)) (.exit 2) (times_iout a b k) 2 := by
  exact qxz [rG [hhV 3 (AV.dptr 0 k), hhI 4 ((a / 10 ^ k % 10 : Nat) : Int), hhB 5 false]]
    (oA (oS (show 0 ≤ ((k : Nat) : Int) from by omega)) <| oA (oS (show ((k : Nat) : Int) < (((nd a) : Nat) : Int) from by omega)) <| oA (oS (show AV.dptr 0 (Int.toNat ((k : Nat) : Int) * 1) = AV.dptr 0 k from dptrE (by omega))) <| oA (oS (show (ints .i64 (dg a) : List AV)[k]? = some (jI ((a / 10 ^ k % 10 : Nat) : Int)) from getDg (by omega))) <| oS (show AV.bool (decide ((((a / 10 ^ k % 10) : Nat) : Int) < ((a / 10 ^ k % 10 : Nat) : Int))) = jB false from bF (by omega)))
    (oA (oR [AV.dsl 0 (nd a), AV.dsl 1 (nd b)]) <| oA (oS (show AV.dsl 3 (nd ((a / 10 ^ (k + 1) * b) * 10 + (a / 10 ^ k % 10) * b)) = AV.dsl 3 (nd (a / 10 ^ k * b)) from dslE (by rw [times_step]))) <| oA (oR [jI ((k : Nat) : Int)]) <| oA (oS (show sameF (FL a) (FL a) from qzt (by simp))) <| oA (oS (show sameF (FL b) (FL b) from qzt (by simp))) <| oS (show sameF (FT ((a / 10 ^ (k + 1) * b) * 10 + (a / 10 ^ k % 10) * b)) (FT (a / 10 ^ k * b)) from qzt (by rw [times_step]; simp))) (by kernel_rfl)
theorem times_iloop (a b k : Nat) (hl : nd a + nd b < 900000) (hk : k < nd a) : Tri Try.prog (.loop (loopN (qzx Try.f73) 1)) (times_in a b k 0) (.exit 2) (times_iout a b k) 2 :=
  tri_up (times_in a b k) (ne_normal_exit 2) (a / 10 ^ k % 10) (fun d hd => times_iround a b k d hl hk hd) (times_ilast a b k hl hk) 0 (Nat.zero_le _)
theorem times_round (a b k : Nat) (hl : nd a + nd b < 900000) (hk : k + 1 < nd a)  : Tri Try.prog (loopN (qzx Try.f73) 0) (times_inv a b (k + 1)) .normal (times_inv a b k) 2 := by
  have hn0 : nd (a / 10 ^ ((k + 1) + 1) * b) ≤ nd a + nd b := Nat.le_trans (nd_mono (Nat.mul_le_mul_right b (Nat.div_le_self a _))) nd_mul
  exact tri_ren [0, 1, 3] [rG [hhB 1 true], rG [(1, {call := some ⟨[2, 3], [AV.dsl 0 (nd (a / 10 ^ (k + 1 + 1) * b)), jI 1], [FL (a / 10 ^ (k + 1 + 1) * b)], AV.dsl 1 (nd ((a / 10 ^ (k + 1 + 1) * b) * 10)), [FL (a / 10 ^ (k + 1 + 1) * b), FT ((a / 10 ^ (k + 1 + 1) * b) * 10)]⟩, val := some (AV.dsl 3 (nd ((a / 10 ^ (k + 1 + 1) * b) * 10))), obj := some [FT (a / 10 ^ (k + 1 + 1) * b), FT ((a / 10 ^ (k + 1 + 1) * b) * 10)]})], rG [], .loop (⟨([some (AV.dsl 0 (nd a)), some (AV.dsl 1 (nd b)), none, none, none, some (AV.dsl 3 (nd ((a / 10 ^ ((k + 1) + 1) * b) * 10 + 0 * b))), sI (((k + 1) : Nat) : Int), sI ((0 : Nat) : Int)] ++ nn 21), [some (FL a), some (FL b), some (AObj.dead), some (FT ((a / 10 ^ ((k + 1) + 1) * b) * 10 + 0 * b)), none]⟩) (.exit 2) (⟨([some (AV.dsl 0 (nd a)), some (AV.dsl 1 (nd b)), none, none, none, some (AV.dsl 3 (nd (a / 10 ^ (k + 1) * b))), sI (((k + 1) : Nat) : Int)] ++ nn 22), [some (FL a), some (FL b), some (AObj.dead), some (FT (a / 10 ^ (k + 1) * b)), none]⟩), rG [hhI 1 ((k : Nat) : Int)]]
    (oA (oS (show AV.bool (decide (((k + 1 : Nat) : Int) ≥ 0)) = jB true from bT (by omega))) <| oA (oS (show [AV.dsl 2 (nd (a / 10 ^ (k + 1 + 1) * b)), jI 1] = renL [2, 3] [AV.dsl 0 (nd (a / 10 ^ (k + 1 + 1) * b)), jI 1] from rfl)) <| oA (oS (show Meets Try.prog 38 [AV.dsl 0 (nd (a / 10 ^ (k + 1 + 1) * b)), jI 1] [FL (a / 10 ^ (k + 1 + 1) * b)] (AV.dsl 1 (nd ((a / 10 ^ (k + 1 + 1) * b) * 10))) [FL (a / 10 ^ (k + 1 + 1) * b), FT ((a / 10 ^ (k + 1 + 1) * b) * 10)] from ten_one (a / 10 ^ (k + 1 + 1) * b) (by omega))) <| oA (oS (show Fits (FT (a / 10 ^ (k + 1 + 1) * b)) (AObj.ren [2, 3] (FL (a / 10 ^ (k + 1 + 1) * b))) from Fits.ints (by simp))) <| oA (oS (show AV.ren [2, 3] (AV.dsl 1 (nd ((a / 10 ^ (k + 1 + 1) * b) * 10))) = AV.dsl 3 (nd ((a / 10 ^ (k + 1 + 1) * b) * 10)) from rfl)) <| oA (oS (show updOf [2, 3] [FT (a / 10 ^ (k + 1 + 1) * b)] [FL (a / 10 ^ (k + 1 + 1) * b)] [FL (a / 10 ^ (k + 1 + 1) * b), FT ((a / 10 ^ (k + 1 + 1) * b) * 10)] ++ List.map (fun x => x.ren [2, 3]) (List.drop 1 [FL (a / 10 ^ (k + 1 + 1) * b), FT ((a / 10 ^ (k + 1 + 1) * b) * 10)]) = [FT (a / 10 ^ (k + 1 + 1) * b), FT ((a / 10 ^ (k + 1 + 1) * b) * 10)] from by simp only [updOf, AObj.owned, List.map_cons, List.map_nil, List.drop, AObj.ren, qzu, List.nil_append, List.cons_append, if_false, Bool.false_eq_true])) <| oA (oR [AV.dsl 0 (nd a), AV.dsl 1 (nd b)]) <| oA (oS (show AV.dsl 3 (nd ((a / 10 ^ (k + 1 + 1) * b) * 10)) = AV.dsl 3 (nd ((a / 10 ^ ((k + 1) + 1) * b) * 10 + 0 * b)) from dslE (congrArg nd (by rw [Nat.zero_mul]; try rfl)))) <| oA (oR [jI ((k + 1 : Nat) : Int), jI 0]) <| oA (oS (show sameF (FL a) (FL a) from qzt (by simp))) <| oA (oS (show sameF (FL b) (FL b) from qzt (by simp))) <| oA (oS (show sameF (FT ((a / 10 ^ (k + 1 + 1) * b) * 10)) (FT ((a / 10 ^ ((k + 1) + 1) * b) * 10 + 0 * b)) from qzt (by rw [Nat.zero_mul]; simp))) <| oA (oS (show Tri Try.prog (.loop (loopN (qzx Try.f73) 1)) (⟨([some (AV.dsl 0 (nd a)), some (AV.dsl 1 (nd b)), none, none, none, some (AV.dsl 3 (nd ((a / 10 ^ ((k + 1) + 1) * b) * 10 + 0 * b))), sI (((k + 1) : Nat) : Int), sI ((0 : Nat) : Int)] ++ nn 21), [some (FL a), some (FL b), some (AObj.dead), some (FT ((a / 10 ^ ((k + 1) + 1) * b) * 10 + 0 * b)), none]⟩) (.exit 2) (⟨([some (AV.dsl 0 (nd a)), some (AV.dsl 1 (nd b)), none, none, none, some (AV.dsl 3 (nd (a / 10 ^ (k + 1) * b))), sI (((k + 1) : Nat) : Int)] ++ nn 22), [some (FL a), some (FL b), some (AObj.dead), some (FT (a / 10 ^ (k + 1) * b)), none]⟩) 2 from times_iloop a b (k + 1) hl (by omega))) <| oW ((((k + 1) : Nat) : Int) - 1) ((k : Nat) : Int) (by omega))
    (oA (oR [AV.dsl 0 (nd a), AV.dsl 1 (nd b), AV.dsl 3 (nd (a / 10 ^ (k + 1) * b)), jI ((k : Nat) : Int)]) <| oA (oS (show sameF (FL a) (AObj.ren [0, 1, 3] (FL a)) from qxw (by simp))) <| oA (oS (show sameF (FL b) (AObj.ren [0, 1, 3] (FL b)) from qxw (by simp))) <| oS (show sameF (FT (a / 10 ^ (k + 1) * b)) (AObj.ren [0, 1, 3] (FT (a / 10 ^ (k + 1) * b))) from qxw (by simp))) (by kernel_rfl)
theorem times_round0 (a b : Nat) (hl : nd a + nd b < 900000) (hk : 0 < nd a)  : Tri Try.prog (loopN (qzx Try.f73) 0) (times_inv a b 0) .normal (times_done a b) 2 := by
  have hn0 : nd (a / 10 ^ (0 + 1) * b) ≤ nd a + nd b := Nat.le_trans (nd_mono (Nat.mul_le_mul_right b (Nat.div_le_self a _))) nd_mul
  exact tri_ren [0, 1, 3] [rG [hhB 1 true], rG [(1, {call := some ⟨[2, 3], [AV.dsl 0 (nd (a / 10 ^ (0 + 1) * b)), jI 1], [FL (a / 10 ^ (0 + 1) * b)], AV.dsl 1 (nd ((a / 10 ^ (0 + 1) * b) * 10)), [FL (a / 10 ^ (0 + 1) * b), FT ((a / 10 ^ (0 + 1) * b) * 10)]⟩, val := some (AV.dsl 3 (nd ((a / 10 ^ (0 + 1) * b) * 10))), obj := some [FT (a / 10 ^ (0 + 1) * b), FT ((a / 10 ^ (0 + 1) * b) * 10)]})], rG [], .loop (⟨([some (AV.dsl 0 (nd a)), some (AV.dsl 1 (nd b)), none, none, none, some (AV.dsl 3 (nd ((a / 10 ^ (0 + 1) * b) * 10 + 0 * b))), sI ((0 : Nat) : Int), sI ((0 : Nat) : Int)] ++ nn 21), [some (FL a), some (FL b), some (AObj.dead), some (FT ((a / 10 ^ (0 + 1) * b) * 10 + 0 * b)), none]⟩) (.exit 2) (⟨([some (AV.dsl 0 (nd a)), some (AV.dsl 1 (nd b)), none, none, none, some (AV.dsl 3 (nd (a / 10 ^ 0 * b))), sI ((0 : Nat) : Int)] ++ nn 22), [some (FL a), some (FL b), some (AObj.dead), some (FT (a / 10 ^ 0 * b)), none]⟩), rG [hhI 1 (-1)]]
    (oA (oS (show AV.bool (decide (((0 : Nat) : Int) ≥ 0)) = jB true from bT (by omega))) <| oA (oS (show [AV.dsl 2 (nd (a / 10 ^ (0 + 1) * b)), jI 1] = renL [2, 3] [AV.dsl 0 (nd (a / 10 ^ (0 + 1) * b)), jI 1] from rfl)) <| oA (oS (show Meets Try.prog 38 [AV.dsl 0 (nd (a / 10 ^ (0 + 1) * b)), jI 1] [FL (a / 10 ^ (0 + 1) * b)] (AV.dsl 1 (nd ((a / 10 ^ (0 + 1) * b) * 10))) [FL (a / 10 ^ (0 + 1) * b), FT ((a / 10 ^ (0 + 1) * b) * 10)] from ten_one (a / 10 ^ (0 + 1) * b) (by omega))) <| oA (oS (show Fits (FT (a / 10 ^ (0 + 1) * b)) (AObj.ren [2, 3] (FL (a / 10 ^ (0 + 1) * b))) from Fits.ints (by simp))) <| oA (oS (show AV.ren [2, 3] (AV.dsl 1 (nd ((a / 10 ^ (0 + 1) * b) * 10))) = AV.dsl 3 (nd ((a / 10 ^ (0 + 1) * b) * 10)) from rfl)) <| oA (oS (show updOf [2, 3] [FT (a / 10 ^ (0 + 1) * b)] [FL (a / 10 ^ (0 + 1) * b)] [FL (a / 10 ^ (0 + 1) * b), FT ((a / 10 ^ (0 + 1) * b) * 10)] ++ List.map (fun x => x.ren [2, 3]) (List.drop 1 [FL (a / 10 ^ (0 + 1) * b), FT ((a / 10 ^ (0 + 1) * b) * 10)]) = [FT (a / 10 ^ (0 + 1) * b), FT ((a / 10 ^ (0 + 1) * b) * 10)] from by simp only [updOf, AObj.owned, List.map_cons, List.map_nil, List.drop, AObj.ren, qzu, List.nil_append, List.cons_append, if_false, Bool.false_eq_true])) <| oA (oR [AV.dsl 0 (nd a), AV.dsl 1 (nd b)]) <| oA (oS (show AV.dsl 3 (nd ((a / 10 ^ (0 + 1) * b) * 10)) = AV.dsl 3 (nd ((a / 10 ^ (0 + 1) * b) * 10 + 0 * b)) from dslE (congrArg nd (by rw [Nat.zero_mul]; try rfl)))) <| oA (oR [jI ((0 : Nat) : Int), jI 0]) <| oA (oS (show sameF (FL a) (FL a) from qzt (by simp))) <| oA (oS (show sameF (FL b) (FL b) from qzt (by simp))) <| oA (oS (show sameF (FT ((a / 10 ^ (0 + 1) * b) * 10)) (FT ((a / 10 ^ (0 + 1) * b) * 10 + 0 * b)) from qzt (by rw [Nat.zero_mul]; simp))) <| oA (oS (show Tri Try.prog (.loop (loopN (qzx Try.f73) 1)) (⟨([some (AV.dsl 0 (nd a)), some (AV.dsl 1 (nd b)), none, none, none, some (AV.dsl 3 (nd ((a / 10 ^ (0 + 1) * b) * 10 + 0 * b))), sI ((0 : Nat) : Int), sI ((0 : Nat) : Int)] ++ nn 21), [some (FL a), some (FL b), some (AObj.dead), some (FT ((a / 10 ^ (0 + 1) * b) * 10 + 0 * b)), none]⟩) (.exit 2) (⟨([some (AV.dsl 0 (nd a)), some (AV.dsl 1 (nd b)), none, none, none, some (AV.dsl 3 (nd (a / 10 ^ 0 * b))), sI ((0 : Nat) : Int)] ++ nn 22), [some (FL a), some (FL b), some (AObj.dead), some (FT (a / 10 ^ 0 * b)), none]⟩) 2 from times_iloop a b 0 hl (by omega))) <| oW (((0 : Nat) : Int) - 1) (-1) (by omega))
    (oA (oR [AV.dsl 0 (nd a), AV.dsl 1 (nd b)]) <| oA (oS (show AV.dsl 3 (nd (a / 10 ^ 0 * b)) = AV.ren [0, 1, 3] (AV.dsl 2 (nd (a * b))) from dslE (by simp))) <| oA (oR [jI (-1)]) <| oA (oS (show sameF (FL a) (AObj.ren [0, 1, 3] (FL a)) from qxw (by simp))) <| oA (oS (show sameF (FL b) (AObj.ren [0, 1, 3] (FL b)) from qxw (by simp))) <| oS (show sameF (FT (a / 10 ^ 0 * b)) (AObj.ren [0, 1, 3] (FT (a * b))) from qxw (by simp))) (by kernel_rfl)
def times_out (a b : Nat) : AState :=
  ⟨([none, none, none, none, none, some (AV.dsl 2 (nd (a * b)))] ++ nn 23), [some (FL a), some (FL b), some (FT (a * b)), none, none]⟩
theorem times_last (a b : Nat) : Tri Try.prog (loopN (qzx Try.f73) 0) (times_done a b) (.exit 0) (times_out a b) 2 := by
  exact qxz [rG [hhB 1 false]]
    (oS (show AV.bool (decide (((-1) : Int) ≥ 0)) = jB false from boolE (by decide)))
    (oA (oR [AV.dsl 2 (nd (a * b))]) <| oA (oS (show sameF (FL a) (FL a) from qzt (by simp))) <| oA (oS (show sameF (FL b) (FL b) from qzt (by simp))) <| oS (show sameF (FT (a * b)) (FT (a * b)) from qzt (by simp))) (by kernel_rfl)
def timesAt (a b : Nat) : Nat → AState
  | 0 => times_done a b
  | k + 1 => times_inv a b k
theorem times_loop (a b : Nat) (hl : nd a + nd b < 900000) : Tri Try.prog (.loop (loopN (qzx Try.f73) 0)) (timesAt a b (nd a)) (.exit 0) (times_out a b) 2 :=
  tri_down (timesAt a b) (ne_normal_exit 0) (nd a) (fun k hk => by
    cases k with
    | zero => exact times_round0 a b hl hk
    | succ k => exact times_round a b k hl hk) (times_last a b) (nd a) (Nat.le_refl _)
theorem times_meets (a b : Nat) (hl : nd a + nd b < 900000) : Meets Try.prog 73 [AV.dsl 0 (nd a), AV.dsl 1 (nd b)] [FL a, FL b] (AV.dsl 2 (nd (a * b))) [FL a, FL b, FT (a * b)] := by
  let q1 : List Orc := [rG [], rG [(0, {nm := [2], view := 1})], rG [hhI 2 (((nd a : Nat) : Int) - 1)]]
  by_cases c1 : nd a = 0
  · exact qzy (fn := Try.f73) 3 (q1 ++ [.loop (⟨([some (AV.dsl 0 (nd a)), some (AV.dsl 1 (nd b)), none, none, none, some (AV.dsl 2 (nd (a * b))), sI (-1)] ++ nn 22), [some (FL a), some (FL b), some (FT (a * b)), none, none]⟩) (.exit 0) (⟨([none, none, none, none, none, some (AV.dsl 2 (nd (a * b)))] ++ nn 23), [some (FL a), some (FL b), some (FT (a * b)), none, none]⟩), rG []]) [{}] Try.func73 (by kernel_rfl) Try.call73
      (oA (oW ((((nd a) : Nat) : Int) - 1) (((nd a : Nat) : Int) - 1) (by omega)) <| oA (oR [AV.dsl 0 (nd a), AV.dsl 1 (nd b)]) <| oA (oS (show AV.dsl 2 0 = AV.dsl 2 (nd (a * b)) from dslE (by rw [nd_eq_zero c1, Nat.zero_mul, nd_zero]))) <| oA (oS (show jI (((nd a : Nat) : Int) - 1) = jI (-1) from intE (by omega))) <| oA (oS (show sameF (FL a) (FL a) from qzt (by simp))) <| oA (oS (show sameF (FL b) (FL b) from qzt (by simp))) <| oA (oS (show sameF (AObj.flat true (ints .i64 ([] : List Int))) (FT (a * b)) from qzt (by rw [nd_eq_zero c1, Nat.zero_mul, dg_zero]; rfl))) <| oS (show Tri Try.prog (.loop (loopN (qzx Try.f73) 0)) (⟨([some (AV.dsl 0 (nd a)), some (AV.dsl 1 (nd b)), none, none, none, some (AV.dsl 2 (nd (a * b))), sI (-1)] ++ nn 22), [some (FL a), some (FL b), some (FT (a * b)), none, none]⟩) (.exit 0) (⟨([none, none, none, none, none, some (AV.dsl 2 (nd (a * b)))] ++ nn 23), [some (FL a), some (FL b), some (FT (a * b)), none, none]⟩) 2 from (by have h := times_loop a b hl; rw [c1] at h; exact h)))
      (oA (oS (@rfl _ (AV.dsl 2 (nd (a * b))))) <| oA (oS (show Fits (FL a) (FL a) from Fits.refl _)) <| oA (oS (show AvoidO (fun n => decide (3 ≤ n)) (FL a) from AvoidO.flat (AvoidL.ints _ _ _))) <| oA (oS (show Fits (FL b) (FL b) from Fits.refl _)) <| oA (oS (show AvoidO (fun n => decide (3 ≤ n)) (FL b) from AvoidO.flat (AvoidL.ints _ _ _))) <| oA (oS (show Fits (FT (a * b)) (FT (a * b)) from Fits.refl _)) <| oS (show AvoidO (fun n => decide (3 ≤ n)) (FT (a * b)) from AvoidO.flat (AvoidL.ints _ _ _))) (by kernel_rfl)
  · exact qzy (fn := Try.f73) 3 (q1 ++ [.loop (⟨([some (AV.dsl 0 (nd a)), some (AV.dsl 1 (nd b)), none, none, none, some (AV.dsl 2 (nd (a / 10 ^ (nd a - 1 + 1) * b))), sI ((nd a - 1 : Nat) : Int)] ++ nn 22), [some (FL a), some (FL b), some (FT (a / 10 ^ (nd a - 1 + 1) * b)), none, none]⟩) (.exit 0) (⟨([none, none, none, none, none, some (AV.dsl 2 (nd (a * b)))] ++ nn 23), [some (FL a), some (FL b), some (FT (a * b)), none, none]⟩), rG []]) [{}] Try.func73 (by kernel_rfl) Try.call73
      (oA (oW ((((nd a) : Nat) : Int) - 1) (((nd a : Nat) : Int) - 1) (by omega)) <| oA (oR [AV.dsl 0 (nd a), AV.dsl 1 (nd b)]) <| oA (oS (show AV.dsl 2 0 = AV.dsl 2 (nd (a / 10 ^ (nd a - 1 + 1) * b)) from dslE (by rw [show nd a - 1 + 1 = nd a by omega, nd_div, Nat.zero_mul, nd_zero]))) <| oA (oS (show jI (((nd a : Nat) : Int) - 1) = jI ((nd a - 1 : Nat) : Int) from intE (by omega))) <| oA (oS (show sameF (FL a) (FL a) from qzt (by simp))) <| oA (oS (show sameF (FL b) (FL b) from qzt (by simp))) <| oA (oS (show sameF (AObj.flat true (ints .i64 ([] : List Int))) (FT (a / 10 ^ (nd a - 1 + 1) * b)) from qzt (by rw [show nd a - 1 + 1 = nd a by omega, nd_div, Nat.zero_mul, dg_zero]; rfl))) <| oS (show Tri Try.prog (.loop (loopN (qzx Try.f73) 0)) (⟨([some (AV.dsl 0 (nd a)), some (AV.dsl 1 (nd b)), none, none, none, some (AV.dsl 2 (nd (a / 10 ^ (nd a - 1 + 1) * b))), sI ((nd a - 1 : Nat) : Int)] ++ nn 22), [some (FL a), some (FL b), some (FT (a / 10 ^ (nd a - 1 + 1) * b)), none, none]⟩) (.exit 0) (⟨([none, none, none, none, none, some (AV.dsl 2 (nd (a * b)))] ++ nn 23), [some (FL a), some (FL b), some (FT (a * b)), none, none]⟩) 2 from (by have h := times_loop a b hl; rw [show nd a = nd a - 1 + 1 by omega] at h; exact h)))
      (oA (oS (@rfl _ (AV.dsl 2 (nd (a * b))))) <| oA (oS (show Fits (FL a) (FL a) from Fits.refl _)) <| oA (oS (show AvoidO (fun n => decide (3 ≤ n)) (FL a) from AvoidO.flat (AvoidL.ints _ _ _))) <| oA (oS (show Fits (FL b) (FL b) from Fits.refl _)) <| oA (oS (show AvoidO (fun n => decide (3 ≤ n)) (FL b) from AvoidO.flat (AvoidL.ints _ _ _))) <| oA (oS (show Fits (FT (a * b)) (FT (a * b)) from Fits.refl _)) <| oS (show AvoidO (fun n => decide (3 ≤ n)) (FT (a * b)) from AvoidO.flat (AvoidL.ints _ _ _))) (by kernel_rfl)
theorem dN_cons {j x d : Nat} (hd : d < 10) : ((d : Nat) : Int) :: dN j x = dN (j + 1) (10 * x + d) := by
  apply List.ext_getElem?
  intro i
  cases i with
  | zero => simp [dN]; omega
  | succ i =>
    simp only [dN, List.getElem?_cons_succ, List.getElem?_map]
    by_cases h : i < j
    · rw [List.getElem?_range h, List.getElem?_range (by omega)]
      simp only [Option.map_some, Option.some.injEq]
      rw [Nat.pow_succ, Nat.mul_comm (10 ^ i) 10, ← Nat.div_div_eq_div_mul]
      congr 3; omega
    · rw [List.getElem?_eq_none (by simp; omega), List.getElem?_eq_none (by simp; omega)]; rfl
def byY (a b k : Nat) : Nat := 10 * (a / 10 ^ (k + 1) % b) + a / 10 ^ k % 10
theorem byY_lt {a b k : Nat} (hb : 0 < b) : byY a b k < 10 * b := by
  unfold byY
  have := Nat.mod_lt (a / 10 ^ (k + 1)) hb
  omega
theorem byY_div {a b k : Nat} (hb : 0 < b) : 10 * (a / 10 ^ (k + 1) / b) + byY a b k / b = a / 10 ^ k / b := by
  have h := div_top (a := a) (k := k)
  have h2 := Nat.div_add_mod (a / 10 ^ (k + 1)) b
  have h3 : a / 10 ^ k = byY a b k + b * (10 * (a / 10 ^ (k + 1) / b)) := by
    unfold byY
    rw [← Nat.mul_assoc, Nat.mul_comm b 10, Nat.mul_assoc]; omega
  rw [h3, Nat.add_mul_div_left _ _ hb]; omega
theorem byY_mod {a b k : Nat} (hb : 0 < b) : byY a b k % b = a / 10 ^ k % b := by
  have h := div_top (a := a) (k := k)
  unfold byY
  generalize a / 10 ^ k % 10 = d at h ⊢
  rw [h, Nat.add_mod, Nat.mul_mod, Nat.mod_mod, ← Nat.mul_mod, ← Nat.add_mod]
theorem byY_ten {a b k : Nat} (hb : 0 < b) : byY a b k / b < 10 := by
  rw [Nat.div_lt_iff_lt_mul hb]; exact byY_lt hb
theorem byY_nd {a b k : Nat} (hb : 0 < b) : nd (byY a b k) ≤ nd b + 1 := nd_le (by
  have h1 := byY_lt (a := a) (k := k) hb
  have h2 := lt_nd b
  rw [Nat.pow_succ]; omega)
theorem by_go {y b d : Nat} (hb : 0 < b) (h : d < y / b) : ¬ y - d * b < b := by
  have h1 := Nat.mul_le_mul_right b (show d + 1 ≤ y / b from h)
  have h2 := Nat.div_mul_le_self y b
  rw [Nat.succ_mul] at h1; omega
theorem by_stop {y b : Nat} (hb : 0 < b) : y - y / b * b = y % b := by
  have := Nat.div_add_mod y b; rw [Nat.mul_comm] at this; omega
theorem by_sub {y b d : Nat} : y - d * b - b = y - (d + 1) * b := by rw [Nat.succ_mul]; omega
theorem by_cells {j x d t sz : Nat} (hd : d < 10) {m : Nat} (hm : j ≤ m) : AObj.vec (ints .i64 [((d : Nat) : Int)] ++ List.take (j * 1) (ints .i64 (dN j x))) t sz = AObj.vec (ints .i64 (dN (j + 1) (10 * x + d))) t sz := by
  rw [Nat.mul_one, List.take_of_length_le (by rw [qyv, qxt]; exact Nat.le_refl _), ← dN_cons hd]; rfl
def by_inv (a b k : Nat) : AState :=
  ⟨([some (AV.dsl 0 (nd a)), some (AV.dsl 1 (nd b)), none, none, none, none, some (AV.dsl 2 (nd a - (k + 1))), some (AV.dsl 3 (nd (a / 10 ^ (k + 1) % b))), sI ((k : Nat) : Int)] ++ nn 32), [some (FL a), some (FL b), some (AObj.flat true (ints .i64 (dN (nd a - (k + 1)) (a / 10 ^ (k + 1) / b)))), some (FT (a / 10 ^ (k + 1) % b)), none, none, none, none]⟩
def by_done (a b : Nat) : AState :=
  ⟨([some (AV.dsl 0 (nd a)), some (AV.dsl 1 (nd b)), none, none, none, none, some (AV.dsl 2 (nd a)), some (AV.dsl 3 (nd (a % b))), sI (-1)] ++ nn 32), [some (FL a), some (FL b), some (AObj.flat true (ints .i64 (dN (nd a) (a / b)))), some (FT (a % b)), none, none, none, none]⟩
def by_in (a b k d : Nat) : AState :=
  ⟨([some (AV.dsl 0 (nd a)), some (AV.dsl 1 (nd b)), none, none, none, none, some (AV.dsl 2 (nd a - (k + 1))), some (AV.dsl 5 (nd (byY a b k - d * b))), sI ((k : Nat) : Int), sI ((d : Nat) : Int)] ++ nn 31), [some (FL a), some (FL b), some (AObj.flat true (ints .i64 (dN (nd a - (k + 1)) (a / 10 ^ (k + 1) / b)))), some (AObj.dead), some (AObj.dead), some (FT (byY a b k - d * b)), none, none]⟩
def by_iout (a b k : Nat) : AState :=
  ⟨([some (AV.dsl 0 (nd a)), some (AV.dsl 1 (nd b)), none, none, none, none, some (AV.dsl 2 (nd a - (k + 1))), some (AV.dsl 5 (nd (a / 10 ^ k % b))), sI ((k : Nat) : Int), sI ((byY a b k / b : Nat) : Int)] ++ nn 31), [some (FL a), some (FL b), some (AObj.flat true (ints .i64 (dN (nd a - (k + 1)) (a / 10 ^ (k + 1) / b)))), some (AObj.dead), some (AObj.dead), some (FT (a / 10 ^ k % b)), none, none]⟩
theorem by_iround (a b k d : Nat) (ha : nd a < 900000) (hbl : nd b < 900000) (hb : 0 < b) (hk : k < nd a) (hd : d < byY a b k / b) : Tri Try.prog (loopN (qzx Try.f67) 1) (by_in a b k d) .normal (by_in a b k (d + 1)) 2 := by
  have hy := byY_nd (a := a) (k := k) hb
  have hy1 : nd (byY a b k - d * b) ≤ nd (byY a b k) := nd_mono (Nat.sub_le _ _)
  have hgo := by_go hb hd
  have h10 := byY_ten (a := a) (k := k) hb
  exact tri_ren [0, 1, 2, 3, 4, 6] [rG [(2, {call := some ⟨[5, 1], [AV.dsl 0 (nd (byY a b k - d * b)), AV.dsl 1 (nd b)], [FL (byY a b k - d * b), FL b], jB (decide ((byY a b k - d * b) < b)), [FL (byY a b k - d * b), FL b]⟩, val := some (jB false)}), hhB 3 true], rG [(2, {call := some ⟨[5, 1, 6], [AV.dsl 0 (nd (byY a b k - d * b)), AV.dsl 1 (nd b)], [FL (byY a b k - d * b), FL b], AV.dsl 2 (nd ((byY a b k - d * b) - b)), [FL (byY a b k - d * b), FL b, FT ((byY a b k - d * b) - b)]⟩, val := some (AV.dsl 6 (nd ((byY a b k - d * b) - b))), obj := some [FT (byY a b k - d * b), FL b, FT ((byY a b k - d * b) - b)]})], rG [hhI 1 ((d + 1 : Nat) : Int)]]
    (oA (oS (show [AV.dsl 5 (nd (byY a b k - d * b)), AV.dsl 1 (nd b)] = renL [5, 1] [AV.dsl 0 (nd (byY a b k - d * b)), AV.dsl 1 (nd b)] from rfl)) <| oA (oS (show Meets Try.prog 40 [AV.dsl 0 (nd (byY a b k - d * b)), AV.dsl 1 (nd b)] [FL (byY a b k - d * b), FL b] (jB (decide ((byY a b k - d * b) < b))) [FL (byY a b k - d * b), FL b] from less_meets (byY a b k - d * b) b (by omega) (by omega))) <| oA (oS (show Fits (FT (byY a b k - d * b)) (AObj.ren [5, 1] (FL (byY a b k - d * b))) from Fits.ints (by simp))) <| oA (oS (show Fits (FL b) (AObj.ren [5, 1] (FL b)) from Fits.ints (by simp))) <| oA (oS (show AV.ren [5, 1] (jB (decide ((byY a b k - d * b) < b))) = jB false from bF (by_go hb hd))) <| oA (oS (show AV.bool (!false) = jB true from rfl)) <| oA (oS (show [AV.dsl 5 (nd (byY a b k - d * b)), AV.dsl 1 (nd b)] = renL [5, 1, 6] [AV.dsl 0 (nd (byY a b k - d * b)), AV.dsl 1 (nd b)] from rfl)) <| oA (oS (show Meets Try.prog 72 [AV.dsl 0 (nd (byY a b k - d * b)), AV.dsl 1 (nd b)] [FL (byY a b k - d * b), FL b] (AV.dsl 2 (nd ((byY a b k - d * b) - b))) [FL (byY a b k - d * b), FL b, FT ((byY a b k - d * b) - b)] from minus_meets (byY a b k - d * b) b (by omega) (by omega) (by omega))) <| oA (oS (show Fits (FT (byY a b k - d * b)) (AObj.ren [5, 1, 6] (FL (byY a b k - d * b))) from Fits.ints (by simp))) <| oA (oS (show Fits (FL b) (AObj.ren [5, 1, 6] (FL b)) from Fits.ints (by simp))) <| oA (oS (show AV.ren [5, 1, 6] (AV.dsl 2 (nd ((byY a b k - d * b) - b))) = AV.dsl 6 (nd ((byY a b k - d * b) - b)) from rfl)) <| oA (oS (show updOf [5, 1, 6] [FT (byY a b k - d * b), FL b] [FL (byY a b k - d * b), FL b] [FL (byY a b k - d * b), FL b, FT ((byY a b k - d * b) - b)] ++ List.map (fun x => x.ren [5, 1, 6]) (List.drop 2 [FL (byY a b k - d * b), FL b, FT ((byY a b k - d * b) - b)]) = [FT (byY a b k - d * b), FL b, FT ((byY a b k - d * b) - b)] from by simp only [updOf, AObj.owned, List.map_cons, List.map_nil, List.drop, AObj.ren, qzu, List.nil_append, List.cons_append, if_false, Bool.false_eq_true])) <| oW (((d : Nat) : Int) + 1) ((d + 1 : Nat) : Int) (by omega))
    (oA (oR [AV.dsl 0 (nd a), AV.dsl 1 (nd b), AV.dsl 2 (nd a - (k + 1))]) <| oA (oS (show AV.dsl 6 (nd ((byY a b k - d * b) - b)) = AV.ren [0, 1, 2, 3, 4, 6] (AV.dsl 5 (nd (byY a b k - (d + 1) * b))) from dslE (by rw [by_sub]))) <| oA (oR [jI ((k : Nat) : Int), jI ((d + 1 : Nat) : Int)]) <| oA (oS (show sameF (FL a) (AObj.ren [0, 1, 2, 3, 4, 6] (FL a)) from qxw (by simp))) <| oA (oS (show sameF (FL b) (AObj.ren [0, 1, 2, 3, 4, 6] (FL b)) from qxw (by simp))) <| oA (oS (show sameF (AObj.flat true (ints .i64 (dN (nd a - (k + 1)) (a / 10 ^ (k + 1) / b)))) (AObj.ren [0, 1, 2, 3, 4, 6] (AObj.flat true (ints .i64 (dN (nd a - (k + 1)) (a / 10 ^ (k + 1) / b))))) from qxw (by simp))) <| oS (show sameF (FT ((byY a b k - d * b) - b)) (AObj.ren [0, 1, 2, 3, 4, 6] (FT (byY a b k - (d + 1) * b))) from qxw (by rw [by_sub]; simp))) (by kernel_rfl)
theorem by_ilast (a b k : Nat) (ha : nd a < 900000) (hbl : nd b < 900000) (hb : 0 < b) (hk : k < nd a)  : Tri Try.prog (loopN (qzx Try.f67) 1) (by_in a b k (byY a b k / b)) (.exit 2) (by_iout a b k) 2 := by
  have hy := byY_nd (a := a) (k := k) hb
  have hy1 : nd (byY a b k - byY a b k / b * b) ≤ nd (byY a b k) := nd_mono (Nat.sub_le _ _)
  have hst : byY a b k - byY a b k / b * b < b := by rw [by_stop hb]; exact Nat.mod_lt _ hb
  exact qxz [rG [(2, {call := some ⟨[5, 1], [AV.dsl 0 (nd (byY a b k - (byY a b k / b) * b)), AV.dsl 1 (nd b)], [FL (byY a b k - (byY a b k / b) * b), FL b], jB (decide ((byY a b k - (byY a b k / b) * b) < b)), [FL (byY a b k - (byY a b k / b) * b), FL b]⟩, val := some (jB true)}), hhB 3 false]]
    (oA (oS (show [AV.dsl 5 (nd (byY a b k - (byY a b k / b) * b)), AV.dsl 1 (nd b)] = renL [5, 1] [AV.dsl 0 (nd (byY a b k - (byY a b k / b) * b)), AV.dsl 1 (nd b)] from rfl)) <| oA (oS (show Meets Try.prog 40 [AV.dsl 0 (nd (byY a b k - (byY a b k / b) * b)), AV.dsl 1 (nd b)] [FL (byY a b k - (byY a b k / b) * b), FL b] (jB (decide ((byY a b k - (byY a b k / b) * b) < b))) [FL (byY a b k - (byY a b k / b) * b), FL b] from less_meets (byY a b k - (byY a b k / b) * b) b (by omega) (by omega))) <| oA (oS (show Fits (FT (byY a b k - (byY a b k / b) * b)) (AObj.ren [5, 1] (FL (byY a b k - (byY a b k / b) * b))) from Fits.ints (by simp))) <| oA (oS (show Fits (FL b) (AObj.ren [5, 1] (FL b)) from Fits.ints (by simp))) <| oA (oS (show AV.ren [5, 1] (jB (decide ((byY a b k - (byY a b k / b) * b) < b))) = jB true from bT hst)) <| oS (show AV.bool (!true) = jB false from rfl))
    (oA (oR [AV.dsl 0 (nd a), AV.dsl 1 (nd b), AV.dsl 2 (nd a - (k + 1))]) <| oA (oS (show AV.dsl 5 (nd (byY a b k - (byY a b k / b) * b)) = AV.dsl 5 (nd (a / 10 ^ k % b)) from dslE (by rw [by_stop hb, byY_mod hb]))) <| oA (oR [jI ((k : Nat) : Int), jI (((byY a b k / b) : Nat) : Int)]) <| oA (oS (show sameF (FL a) (FL a) from qzt (by simp))) <| oA (oS (show sameF (FL b) (FL b) from qzt (by simp))) <| oA (oS (show sameF (AObj.flat true (ints .i64 (dN (nd a - (k + 1)) (a / 10 ^ (k + 1) / b)))) (AObj.flat true (ints .i64 (dN (nd a - (k + 1)) (a / 10 ^ (k + 1) / b)))) from qzt (by simp))) <| oS (show sameF (FT (byY a b k - (byY a b k / b) * b)) (FT (a / 10 ^ k % b)) from qzt (by rw [by_stop hb, byY_mod hb]; simp))) (by kernel_rfl)
theorem by_iloop (a b k : Nat) (ha : nd a < 900000) (hbl : nd b < 900000) (hb : 0 < b) (hk : k < nd a) : Tri Try.prog (.loop (loopN (qzx Try.f67) 1)) (by_in a b k 0) (.exit 2) (by_iout a b k) 2 :=
  tri_up (by_in a b k) (ne_normal_exit 2) (byY a b k / b) (fun d hd => by_iround a b k d ha hbl hb hk hd) (by_ilast a b k ha hbl hb hk) 0 (Nat.zero_le _)
theorem by_nd {x d : Nat} (hd : d < 10) : nd (10 * x + d) ≤ 1 + nd x := nd_le (by
  have h2 := lt_nd x
  rw [Nat.pow_add, Nat.pow_one]; omega)
theorem by_take {x d : Nat} (hd : d < 10) : (dN (nd x + 1) (10 * x + d)).take (dg (10 * x + d)).length = dg (10 * x + d) := by
  rw [qxu]; exact dN_take (by have := by_nd (x := x) hd; omega)
theorem by_len {n k : Nat} (h : k < n) : n - (k + 1) + 1 = n - k := by omega
theorem by_q {a b k : Nat} (hb : 0 < b) (hk : k < nd a) : dN (nd a - (k + 1) + 1) (10 * (a / 10 ^ (k + 1) / b) + byY a b k / b) = dN (nd a - k) (a / 10 ^ k / b) := by rw [byY_div hb, by_len hk]
theorem by_round (a b k : Nat) (ha : nd a < 900000) (hbl : nd b < 900000) (hb : 0 < b) (hk : k + 1 < nd a)  : Tri Try.prog (loopN (qzx Try.f67) 0) (by_inv a b (k + 1)) .normal (by_inv a b k) 2 := by
  have hrn : nd (a / 10 ^ ((k + 1) + 1) % b) ≤ nd b := nd_mono (Nat.le_of_lt (Nat.mod_lt _ hb))
  exact tri_ren [0, 1, 7, 5] [rG [hhB 1 true], rG [hhV 2 (AV.dptr 0 (k + 1)), hhI 3 ((a / 10 ^ (k + 1) % 10 : Nat) : Int), (4, {nm := [4], obj := some [AObj.vec (ints .i64 [((a / 10 ^ (k + 1) % 10 : Nat) : Int)]) 3 1], view := 3}), (6, {nm := [5], obj := some [AObj.vec (ints .i64 (dN (nd (a / 10 ^ ((k + 1) + 1) % b) + 1) (10 * (a / 10 ^ ((k + 1) + 1) % b) + a / 10 ^ (k + 1) % 10))) 3 1], view := 4}), (7, {call := some ⟨[5], [AV.dsl 0 (1 + nd (a / 10 ^ ((k + 1) + 1) % b))], [AObj.flat false (ints .i64 (dN (1 + nd (a / 10 ^ ((k + 1) + 1) % b)) (10 * (a / 10 ^ ((k + 1) + 1) % b) + a / 10 ^ (k + 1) % 10)))], AV.dsl 0 (nd (10 * (a / 10 ^ ((k + 1) + 1) % b) + a / 10 ^ (k + 1) % 10)), [AObj.flat false (ints .i64 (dN (1 + nd (a / 10 ^ ((k + 1) + 1) % b)) (10 * (a / 10 ^ ((k + 1) + 1) % b) + a / 10 ^ (k + 1) % 10)))]⟩, val := some (AV.dsl 5 (nd (10 * (a / 10 ^ ((k + 1) + 1) % b) + a / 10 ^ (k + 1) % 10)))})], rG [], .loop (⟨([some (AV.dsl 0 (nd a)), some (AV.dsl 1 (nd b)), none, none, none, none, some (AV.dsl 2 (nd a - ((k + 1) + 1))), some (AV.dsl 5 (nd (byY a b (k + 1) - 0 * b))), sI (((k + 1) : Nat) : Int), sI ((0 : Nat) : Int)] ++ nn 31), [some (FL a), some (FL b), some (AObj.flat true (ints .i64 (dN (nd a - ((k + 1) + 1)) (a / 10 ^ ((k + 1) + 1) / b)))), some (AObj.dead), some (AObj.dead), some (FT (byY a b (k + 1) - 0 * b)), none, none]⟩) (.exit 2) (⟨([some (AV.dsl 0 (nd a)), some (AV.dsl 1 (nd b)), none, none, none, none, some (AV.dsl 2 (nd a - ((k + 1) + 1))), some (AV.dsl 5 (nd (a / 10 ^ (k + 1) % b))), sI (((k + 1) : Nat) : Int), sI ((byY a b (k + 1) / b : Nat) : Int)] ++ nn 31), [some (FL a), some (FL b), some (AObj.flat true (ints .i64 (dN (nd a - ((k + 1) + 1)) (a / 10 ^ ((k + 1) + 1) / b)))), some (AObj.dead), some (AObj.dead), some (FT (a / 10 ^ (k + 1) % b)), none, none]⟩), rG [(1, {nm := [6], obj := some [AObj.vec (ints .i64 [((byY a b (k + 1) / b : Nat) : Int)]) 3 1], view := 3}), (3, {nm := [7], obj := some [AObj.vec (ints .i64 (dN (nd a - ((k + 1) + 1) + 1) (10 * (a / 10 ^ ((k + 1) + 1) / b) + byY a b (k + 1) / b))) 3 1]}), (4, {view := 2})], rG [hhI 1 ((k : Nat) : Int)]]
    (oA (oS (show AV.bool (decide (((k + 1 : Nat) : Int) ≥ 0)) = jB true from bT (by omega))) <| oA (oS (show 0 ≤ ((k + 1 : Nat) : Int) from by omega)) <| oA (oS (show ((k + 1 : Nat) : Int) < (((nd a) : Nat) : Int) from by omega)) <| oA (oS (show AV.dptr 0 (Int.toNat ((k + 1 : Nat) : Int) * 1) = AV.dptr 0 (k + 1) from dptrE (by omega))) <| oA (oS (show (ints .i64 (dg a) : List AV)[(k + 1)]? = some (jI ((a / 10 ^ (k + 1) % 10 : Nat) : Int)) from getDg (by omega))) <| oA (oS (show ([jI ((a / 10 ^ (k + 1) % 10 : Nat) : Int)] : List AV).length = 1 from rfl)) <| oA (oS (show 0 + 1 ≤ List.length (List.flatten (List.replicate 1 [jI 0])) from Nat.le_of_ble_eq_true rfl)) <| oA (oS (show List.length (List.take 0 (List.flatten (List.replicate 1 [jI 0])) ++ [jI ((a / 10 ^ (k + 1) % 10 : Nat) : Int)] ++ List.drop 1 (List.flatten (List.replicate 1 [jI 0]))) = 1 * 1 from rfl)) <| oA (oS (show AObj.vec (List.take 0 (List.flatten (List.replicate 1 [jI 0])) ++ [jI ((a / 10 ^ (k + 1) % 10 : Nat) : Int)] ++ List.drop 1 (List.flatten (List.replicate 1 [jI 0]))) 3 1 = AObj.vec (ints .i64 [((a / 10 ^ (k + 1) % 10 : Nat) : Int)]) 3 1 from rfl)) <| oA (oS (show (nd (a / 10 ^ (k + 1 + 1) % b)) * 1 ≤ List.length (ints .i64 (dg (a / 10 ^ (k + 1 + 1) % b))) from (by simp only [List.length_cons, List.length_nil, List.length_append, qyv, qxx, List.length_replicate, List.length_set, List.length_map, qxt, qxu] <;> omega))) <| oA (oS (show List.length (ints .i64 [((a / 10 ^ (k + 1) % 10 : Nat) : Int)]) = 1 * 1 from (by simp only [List.length_cons, List.length_nil, List.length_append, qyv, qxx, List.length_replicate, List.length_set, List.length_map, qxt, qxu] <;> omega))) <| oA (oS (show 2 * (1 + (nd (a / 10 ^ (k + 1 + 1) % b))) * 8 ≤ 281474976710656 from by omega)) <| oA (oS (show 2 * (1 + (nd (a / 10 ^ (k + 1 + 1) % b))) < 9223372036854775808 from by omega)) <| oA (oS (show AObj.vec ((ints .i64 [((a / 10 ^ (k + 1) % 10 : Nat) : Int)]) ++ (List.take ((nd (a / 10 ^ (k + 1 + 1) % b)) * 1) (ints .i64 (dg (a / 10 ^ (k + 1 + 1) % b))))) 3 1 = AObj.vec (ints .i64 (dN (nd (a / 10 ^ ((k + 1) + 1) % b) + 1) (10 * (a / 10 ^ ((k + 1) + 1) % b) + a / 10 ^ (k + 1) % 10))) 3 1 from by_cells (Nat.mod_lt _ (by decide)) (Nat.le_refl _))) <| oA (oS (show [AV.dsl 5 (1 + (nd (a / 10 ^ (k + 1 + 1) % b)))] = renL [5] [AV.dsl 0 (1 + nd (a / 10 ^ ((k + 1) + 1) % b))] from rfl)) <| oA (oS (show Meets Try.prog 35 [AV.dsl 0 (1 + nd (a / 10 ^ ((k + 1) + 1) % b))] [AObj.flat false (ints .i64 (dN (1 + nd (a / 10 ^ ((k + 1) + 1) % b)) (10 * (a / 10 ^ ((k + 1) + 1) % b) + a / 10 ^ (k + 1) % 10)))] (AV.dsl 0 (nd (10 * (a / 10 ^ ((k + 1) + 1) % b) + a / 10 ^ (k + 1) % 10))) [AObj.flat false (ints .i64 (dN (1 + nd (a / 10 ^ ((k + 1) + 1) % b)) (10 * (a / 10 ^ ((k + 1) + 1) % b) + a / 10 ^ (k + 1) % 10)))] from rtrim_meets (1 + nd (a / 10 ^ ((k + 1) + 1) % b)) (10 * (a / 10 ^ ((k + 1) + 1) % b) + a / 10 ^ (k + 1) % 10) (by omega) (by_nd (Nat.mod_lt _ (by decide))))) <| oA (oS (show Fits (AObj.flat true (ints .i64 (dN (nd (a / 10 ^ ((k + 1) + 1) % b) + 1) (10 * (a / 10 ^ ((k + 1) + 1) % b) + a / 10 ^ (k + 1) % 10)))) (AObj.ren [5] (AObj.flat false (ints .i64 (dN (1 + nd (a / 10 ^ ((k + 1) + 1) % b)) (10 * (a / 10 ^ ((k + 1) + 1) % b) + a / 10 ^ (k + 1) % 10))))) from Fits.ints (by rw [qxt]; exact dN_take (by omega)))) <| oA (oS (show AV.ren [5] (AV.dsl 0 (nd (10 * (a / 10 ^ ((k + 1) + 1) % b) + a / 10 ^ (k + 1) % 10))) = AV.dsl 5 (nd (10 * (a / 10 ^ ((k + 1) + 1) % b) + a / 10 ^ (k + 1) % 10)) from rfl)) <| oA (oR [AV.dsl 0 (nd a), AV.dsl 1 (nd b), AV.dsl 2 (nd a - (k + 1 + 1))]) <| oA (oS (show AV.dsl 5 (nd (10 * (a / 10 ^ ((k + 1) + 1) % b) + a / 10 ^ (k + 1) % 10)) = AV.dsl 5 (nd (byY a b (k + 1) - 0 * b)) from dslE (by rw [Nat.zero_mul]; rfl))) <| oA (oR [jI ((k + 1 : Nat) : Int), jI 0]) <| oA (oS (show sameF (FL a) (FL a) from qzt (by simp))) <| oA (oS (show sameF (FL b) (FL b) from qzt (by simp))) <| oA (oS (show sameF (AObj.flat true (ints .i64 (dN (nd a - (k + 1 + 1)) (a / 10 ^ (k + 1 + 1) / b)))) (AObj.flat true (ints .i64 (dN (nd a - ((k + 1) + 1)) (a / 10 ^ ((k + 1) + 1) / b)))) from qzt (by simp))) <| oA (oS (show sameF (AObj.flat true (ints .i64 (dN (nd (a / 10 ^ ((k + 1) + 1) % b) + 1) (10 * (a / 10 ^ ((k + 1) + 1) % b) + a / 10 ^ (k + 1) % 10)))) (FT (byY a b (k + 1) - 0 * b)) from qzt (by rw [Nat.zero_mul, Nat.sub_zero]; exact by_take (Nat.mod_lt _ (by decide))))) <| oA (oS (show Tri Try.prog (.loop (loopN (qzx Try.f67) 1)) (⟨([some (AV.dsl 0 (nd a)), some (AV.dsl 1 (nd b)), none, none, none, none, some (AV.dsl 2 (nd a - ((k + 1) + 1))), some (AV.dsl 5 (nd (byY a b (k + 1) - 0 * b))), sI (((k + 1) : Nat) : Int), sI ((0 : Nat) : Int)] ++ nn 31), [some (FL a), some (FL b), some (AObj.flat true (ints .i64 (dN (nd a - ((k + 1) + 1)) (a / 10 ^ ((k + 1) + 1) / b)))), some (AObj.dead), some (AObj.dead), some (FT (byY a b (k + 1) - 0 * b)), none, none]⟩) (.exit 2) (⟨([some (AV.dsl 0 (nd a)), some (AV.dsl 1 (nd b)), none, none, none, none, some (AV.dsl 2 (nd a - ((k + 1) + 1))), some (AV.dsl 5 (nd (a / 10 ^ (k + 1) % b))), sI (((k + 1) : Nat) : Int), sI ((byY a b (k + 1) / b : Nat) : Int)] ++ nn 31), [some (FL a), some (FL b), some (AObj.flat true (ints .i64 (dN (nd a - ((k + 1) + 1)) (a / 10 ^ ((k + 1) + 1) / b)))), some (AObj.dead), some (AObj.dead), some (FT (a / 10 ^ (k + 1) % b)), none, none]⟩) 2 from by_iloop a b (k + 1) ha hbl hb (by omega))) <| oA (oS (show ([jI ((byY a b (k + 1) / b : Nat) : Int)] : List AV).length = 1 from rfl)) <| oA (oS (show 0 + 1 ≤ List.length (List.flatten (List.replicate 1 [jI 0])) from Nat.le_of_ble_eq_true rfl)) <| oA (oS (show List.length (List.take 0 (List.flatten (List.replicate 1 [jI 0])) ++ [jI ((byY a b (k + 1) / b : Nat) : Int)] ++ List.drop 1 (List.flatten (List.replicate 1 [jI 0]))) = 1 * 1 from rfl)) <| oA (oS (show AObj.vec (List.take 0 (List.flatten (List.replicate 1 [jI 0])) ++ [jI ((byY a b (k + 1) / b : Nat) : Int)] ++ List.drop 1 (List.flatten (List.replicate 1 [jI 0]))) 3 1 = AObj.vec (ints .i64 [((byY a b (k + 1) / b : Nat) : Int)]) 3 1 from rfl)) <| oA (oS (show (nd a - ((k + 1) + 1)) * 1 ≤ List.length (ints .i64 (dN (nd a - ((k + 1) + 1)) (a / 10 ^ ((k + 1) + 1) / b))) from (by simp only [List.length_cons, List.length_nil, List.length_append, qyv, qxx, List.length_replicate, List.length_set, List.length_map, qxt, qxu] <;> omega))) <| oA (oS (show List.length (ints .i64 [((byY a b (k + 1) / b : Nat) : Int)]) = 1 * 1 from (by simp only [List.length_cons, List.length_nil, List.length_append, qyv, qxx, List.length_replicate, List.length_set, List.length_map, qxt, qxu] <;> omega))) <| oA (oS (show 2 * (1 + (nd a - ((k + 1) + 1))) * 8 ≤ 281474976710656 from by omega)) <| oA (oS (show 2 * (1 + (nd a - ((k + 1) + 1))) < 9223372036854775808 from by omega)) <| oA (oS (show AObj.vec ((ints .i64 [((byY a b (k + 1) / b : Nat) : Int)]) ++ (List.take ((nd a - ((k + 1) + 1)) * 1) (ints .i64 (dN (nd a - ((k + 1) + 1)) (a / 10 ^ ((k + 1) + 1) / b))))) 3 1 = AObj.vec (ints .i64 (dN (nd a - ((k + 1) + 1) + 1) (10 * (a / 10 ^ ((k + 1) + 1) / b) + byY a b (k + 1) / b))) 3 1 from by_cells (byY_ten hb) (Nat.le_refl _))) <| oW ((((k + 1) : Nat) : Int) - 1) ((k : Nat) : Int) (by omega))
    (oA (oR [AV.dsl 0 (nd a), AV.dsl 1 (nd b)]) <| oA (oS (show AV.dsl 7 (1 + (nd a - ((k + 1) + 1))) = AV.ren [0, 1, 7, 5] (AV.dsl 2 (nd a - (k + 1))) from dslE (by omega))) <| oA (oR [AV.dsl 5 (nd (a / 10 ^ (k + 1) % b)), jI ((k : Nat) : Int)]) <| oA (oS (show sameF (FL a) (AObj.ren [0, 1, 7, 5] (FL a)) from qxw (by simp))) <| oA (oS (show sameF (FL b) (AObj.ren [0, 1, 7, 5] (FL b)) from qxw (by simp))) <| oA (oS (show sameF (AObj.flat true (ints .i64 (dN (nd a - ((k + 1) + 1) + 1) (10 * (a / 10 ^ ((k + 1) + 1) / b) + byY a b (k + 1) / b)))) (AObj.ren [0, 1, 7, 5] (AObj.flat true (ints .i64 (dN (nd a - (k + 1)) (a / 10 ^ (k + 1) / b))))) from qxw (by rw [by_q hb hk]; simp))) <| oS (show sameF (FT (a / 10 ^ (k + 1) % b)) (AObj.ren [0, 1, 7, 5] (FT (a / 10 ^ (k + 1) % b))) from qxw (by simp))) (by kernel_rfl)
theorem by_round0 (a b : Nat) (ha : nd a < 900000) (hbl : nd b < 900000) (hb : 0 < b) (hk : 0 < nd a)  : Tri Try.prog (loopN (qzx Try.f67) 0) (by_inv a b 0) .normal (by_done a b) 2 := by
  have hrn : nd (a / 10 ^ (0 + 1) % b) ≤ nd b := nd_mono (Nat.le_of_lt (Nat.mod_lt _ hb))
  exact tri_ren [0, 1, 7, 5] [rG [hhB 1 true], rG [hhV 2 (AV.dptr 0 0), hhI 3 ((a / 10 ^ 0 % 10 : Nat) : Int), (4, {nm := [4], obj := some [AObj.vec (ints .i64 [((a / 10 ^ 0 % 10 : Nat) : Int)]) 3 1], view := 3}), (6, {nm := [5], obj := some [AObj.vec (ints .i64 (dN (nd (a / 10 ^ (0 + 1) % b) + 1) (10 * (a / 10 ^ (0 + 1) % b) + a / 10 ^ 0 % 10))) 3 1], view := 4}), (7, {call := some ⟨[5], [AV.dsl 0 (1 + nd (a / 10 ^ (0 + 1) % b))], [AObj.flat false (ints .i64 (dN (1 + nd (a / 10 ^ (0 + 1) % b)) (10 * (a / 10 ^ (0 + 1) % b) + a / 10 ^ 0 % 10)))], AV.dsl 0 (nd (10 * (a / 10 ^ (0 + 1) % b) + a / 10 ^ 0 % 10)), [AObj.flat false (ints .i64 (dN (1 + nd (a / 10 ^ (0 + 1) % b)) (10 * (a / 10 ^ (0 + 1) % b) + a / 10 ^ 0 % 10)))]⟩, val := some (AV.dsl 5 (nd (10 * (a / 10 ^ (0 + 1) % b) + a / 10 ^ 0 % 10)))})], rG [], .loop (⟨([some (AV.dsl 0 (nd a)), some (AV.dsl 1 (nd b)), none, none, none, none, some (AV.dsl 2 (nd a - (0 + 1))), some (AV.dsl 5 (nd (byY a b 0 - 0 * b))), sI ((0 : Nat) : Int), sI ((0 : Nat) : Int)] ++ nn 31), [some (FL a), some (FL b), some (AObj.flat true (ints .i64 (dN (nd a - (0 + 1)) (a / 10 ^ (0 + 1) / b)))), some (AObj.dead), some (AObj.dead), some (FT (byY a b 0 - 0 * b)), none, none]⟩) (.exit 2) (⟨([some (AV.dsl 0 (nd a)), some (AV.dsl 1 (nd b)), none, none, none, none, some (AV.dsl 2 (nd a - (0 + 1))), some (AV.dsl 5 (nd (a / 10 ^ 0 % b))), sI ((0 : Nat) : Int), sI ((byY a b 0 / b : Nat) : Int)] ++ nn 31), [some (FL a), some (FL b), some (AObj.flat true (ints .i64 (dN (nd a - (0 + 1)) (a / 10 ^ (0 + 1) / b)))), some (AObj.dead), some (AObj.dead), some (FT (a / 10 ^ 0 % b)), none, none]⟩), rG [(1, {nm := [6], obj := some [AObj.vec (ints .i64 [((byY a b 0 / b : Nat) : Int)]) 3 1], view := 3}), (3, {nm := [7], obj := some [AObj.vec (ints .i64 (dN (nd a - (0 + 1) + 1) (10 * (a / 10 ^ (0 + 1) / b) + byY a b 0 / b))) 3 1]}), (4, {view := 2})], rG [hhI 1 (-1)]]
    (oA (oS (show AV.bool (decide (((0 : Nat) : Int) ≥ 0)) = jB true from bT (by omega))) <| oA (oS (show 0 ≤ ((0 : Nat) : Int) from by omega)) <| oA (oS (show ((0 : Nat) : Int) < (((nd a) : Nat) : Int) from by omega)) <| oA (oS (show AV.dptr 0 (Int.toNat ((0 : Nat) : Int) * 1) = AV.dptr 0 0 from by kernel_rfl)) <| oA (oS (show (ints .i64 (dg a) : List AV)[0]? = some (jI ((a / 10 ^ 0 % 10 : Nat) : Int)) from getDg (by omega))) <| oA (oS (show ([jI ((a / 10 ^ 0 % 10 : Nat) : Int)] : List AV).length = 1 from rfl)) <| oA (oS (show 0 + 1 ≤ List.length (List.flatten (List.replicate 1 [jI 0])) from Nat.le_of_ble_eq_true rfl)) <| oA (oS (show List.length (List.take 0 (List.flatten (List.replicate 1 [jI 0])) ++ [jI ((a / 10 ^ 0 % 10 : Nat) : Int)] ++ List.drop 1 (List.flatten (List.replicate 1 [jI 0]))) = 1 * 1 from rfl)) <| oA (oS (show AObj.vec (List.take 0 (List.flatten (List.replicate 1 [jI 0])) ++ [jI ((a / 10 ^ 0 % 10 : Nat) : Int)] ++ List.drop 1 (List.flatten (List.replicate 1 [jI 0]))) 3 1 = AObj.vec (ints .i64 [((a / 10 ^ 0 % 10 : Nat) : Int)]) 3 1 from rfl)) <| oA (oS (show (nd (a / 10 ^ (0 + 1) % b)) * 1 ≤ List.length (ints .i64 (dg (a / 10 ^ (0 + 1) % b))) from (by simp only [List.length_cons, List.length_nil, List.length_append, qyv, qxx, List.length_replicate, List.length_set, List.length_map, qxt, qxu] <;> omega))) <| oA (oS (show List.length (ints .i64 [((a / 10 ^ 0 % 10 : Nat) : Int)]) = 1 * 1 from (by simp only [List.length_cons, List.length_nil, List.length_append, qyv, qxx, List.length_replicate, List.length_set, List.length_map, qxt, qxu] <;> omega))) <| oA (oS (show 2 * (1 + (nd (a / 10 ^ (0 + 1) % b))) * 8 ≤ 281474976710656 from by omega)) <| oA (oS (show 2 * (1 + (nd (a / 10 ^ (0 + 1) % b))) < 9223372036854775808 from by omega)) <| oA (oS (show AObj.vec ((ints .i64 [((a / 10 ^ 0 % 10 : Nat) : Int)]) ++ (List.take ((nd (a / 10 ^ (0 + 1) % b)) * 1) (ints .i64 (dg (a / 10 ^ (0 + 1) % b))))) 3 1 = AObj.vec (ints .i64 (dN (nd (a / 10 ^ (0 + 1) % b) + 1) (10 * (a / 10 ^ (0 + 1) % b) + a / 10 ^ 0 % 10))) 3 1 from by_cells (Nat.mod_lt _ (by decide)) (Nat.le_refl _))) <| oA (oS (show [AV.dsl 5 (1 + (nd (a / 10 ^ (0 + 1) % b)))] = renL [5] [AV.dsl 0 (1 + nd (a / 10 ^ (0 + 1) % b))] from rfl)) <| oA (oS (show Meets Try.prog 35 [AV.dsl 0 (1 + nd (a / 10 ^ (0 + 1) % b))] [AObj.flat false (ints .i64 (dN (1 + nd (a / 10 ^ (0 + 1) % b)) (10 * (a / 10 ^ (0 + 1) % b) + a / 10 ^ 0 % 10)))] (AV.dsl 0 (nd (10 * (a / 10 ^ (0 + 1) % b) + a / 10 ^ 0 % 10))) [AObj.flat false (ints .i64 (dN (1 + nd (a / 10 ^ (0 + 1) % b)) (10 * (a / 10 ^ (0 + 1) % b) + a / 10 ^ 0 % 10)))] from rtrim_meets (1 + nd (a / 10 ^ (0 + 1) % b)) (10 * (a / 10 ^ (0 + 1) % b) + a / 10 ^ 0 % 10) (by omega) (by_nd (Nat.mod_lt _ (by decide))))) <| oA (oS (show Fits (AObj.flat true (ints .i64 (dN (nd (a / 10 ^ (0 + 1) % b) + 1) (10 * (a / 10 ^ (0 + 1) % b) + a / 10 ^ 0 % 10)))) (AObj.ren [5] (AObj.flat false (ints .i64 (dN (1 + nd (a / 10 ^ (0 + 1) % b)) (10 * (a / 10 ^ (0 + 1) % b) + a / 10 ^ 0 % 10))))) from Fits.ints (by rw [qxt]; exact dN_take (by omega)))) <| oA (oS (show AV.ren [5] (AV.dsl 0 (nd (10 * (a / 10 ^ (0 + 1) % b) + a / 10 ^ 0 % 10))) = AV.dsl 5 (nd (10 * (a / 10 ^ (0 + 1) % b) + a / 10 ^ 0 % 10)) from rfl)) <| oA (oR [AV.dsl 0 (nd a), AV.dsl 1 (nd b), AV.dsl 2 (nd a - (0 + 1))]) <| oA (oS (show AV.dsl 5 (nd (10 * (a / 10 ^ (0 + 1) % b) + a / 10 ^ 0 % 10)) = AV.dsl 5 (nd (byY a b 0 - 0 * b)) from dslE (by rw [Nat.zero_mul]; rfl))) <| oA (oR [jI ((0 : Nat) : Int), jI 0]) <| oA (oS (show sameF (FL a) (FL a) from qzt (by simp))) <| oA (oS (show sameF (FL b) (FL b) from qzt (by simp))) <| oA (oS (show sameF (AObj.flat true (ints .i64 (dN (nd a - (0 + 1)) (a / 10 ^ (0 + 1) / b)))) (AObj.flat true (ints .i64 (dN (nd a - (0 + 1)) (a / 10 ^ (0 + 1) / b)))) from qzt (by simp))) <| oA (oS (show sameF (AObj.flat true (ints .i64 (dN (nd (a / 10 ^ (0 + 1) % b) + 1) (10 * (a / 10 ^ (0 + 1) % b) + a / 10 ^ 0 % 10)))) (FT (byY a b 0 - 0 * b)) from qzt (by rw [Nat.zero_mul, Nat.sub_zero]; exact by_take (Nat.mod_lt _ (by decide))))) <| oA (oS (show Tri Try.prog (.loop (loopN (qzx Try.f67) 1)) (⟨([some (AV.dsl 0 (nd a)), some (AV.dsl 1 (nd b)), none, none, none, none, some (AV.dsl 2 (nd a - (0 + 1))), some (AV.dsl 5 (nd (byY a b 0 - 0 * b))), sI ((0 : Nat) : Int), sI ((0 : Nat) : Int)] ++ nn 31), [some (FL a), some (FL b), some (AObj.flat true (ints .i64 (dN (nd a - (0 + 1)) (a / 10 ^ (0 + 1) / b)))), some (AObj.dead), some (AObj.dead), some (FT (byY a b 0 - 0 * b)), none, none]⟩) (.exit 2) (⟨([some (AV.dsl 0 (nd a)), some (AV.dsl 1 (nd b)), none, none, none, none, some (AV.dsl 2 (nd a - (0 + 1))), some (AV.dsl 5 (nd (a / 10 ^ 0 % b))), sI ((0 : Nat) : Int), sI ((byY a b 0 / b : Nat) : Int)] ++ nn 31), [some (FL a), some (FL b), some (AObj.flat true (ints .i64 (dN (nd a - (0 + 1)) (a / 10 ^ (0 + 1) / b)))), some (AObj.dead), some (AObj.dead), some (FT (a / 10 ^ 0 % b)), none, none]⟩) 2 from by_iloop a b 0 ha hbl hb (by omega))) <| oA (oS (show ([jI ((byY a b 0 / b : Nat) : Int)] : List AV).length = 1 from rfl)) <| oA (oS (show 0 + 1 ≤ List.length (List.flatten (List.replicate 1 [jI 0])) from Nat.le_of_ble_eq_true rfl)) <| oA (oS (show List.length (List.take 0 (List.flatten (List.replicate 1 [jI 0])) ++ [jI ((byY a b 0 / b : Nat) : Int)] ++ List.drop 1 (List.flatten (List.replicate 1 [jI 0]))) = 1 * 1 from rfl)) <| oA (oS (show AObj.vec (List.take 0 (List.flatten (List.replicate 1 [jI 0])) ++ [jI ((byY a b 0 / b : Nat) : Int)] ++ List.drop 1 (List.flatten (List.replicate 1 [jI 0]))) 3 1 = AObj.vec (ints .i64 [((byY a b 0 / b : Nat) : Int)]) 3 1 from rfl)) <| oA (oS (show (nd a - (0 + 1)) * 1 ≤ List.length (ints .i64 (dN (nd a - (0 + 1)) (a / 10 ^ (0 + 1) / b))) from (by simp only [List.length_cons, List.length_nil, List.length_append, qyv, qxx, List.length_replicate, List.length_set, List.length_map, qxt, qxu] <;> omega))) <| oA (oS (show List.length (ints .i64 [((byY a b 0 / b : Nat) : Int)]) = 1 * 1 from (by simp only [List.length_cons, List.length_nil, List.length_append, qyv, qxx, List.length_replicate, List.length_set, List.length_map, qxt, qxu] <;> omega))) <| oA (oS (show 2 * (1 + (nd a - (0 + 1))) * 8 ≤ 281474976710656 from by omega)) <| oA (oS (show 2 * (1 + (nd a - (0 + 1))) < 9223372036854775808 from by omega)) <| oA (oS (show AObj.vec ((ints .i64 [((byY a b 0 / b : Nat) : Int)]) ++ (List.take ((nd a - (0 + 1)) * 1) (ints .i64 (dN (nd a - (0 + 1)) (a / 10 ^ (0 + 1) / b))))) 3 1 = AObj.vec (ints .i64 (dN (nd a - (0 + 1) + 1) (10 * (a / 10 ^ (0 + 1) / b) + byY a b 0 / b))) 3 1 from by_cells (byY_ten hb) (Nat.le_refl _))) <| oW (((0 : Nat) : Int) - 1) (-1) (by omega))
    (oA (oR [AV.dsl 0 (nd a), AV.dsl 1 (nd b)]) <| oA (oS (show AV.dsl 7 (1 + (nd a - (0 + 1))) = AV.ren [0, 1, 7, 5] (AV.dsl 2 (nd a)) from dslE (by omega))) <| oA (oS (show AV.dsl 5 (nd (a / 10 ^ 0 % b)) = AV.ren [0, 1, 7, 5] (AV.dsl 3 (nd (a % b))) from dslE (by simp))) <| oA (oR [jI (-1)]) <| oA (oS (show sameF (FL a) (AObj.ren [0, 1, 7, 5] (FL a)) from qxw (by simp))) <| oA (oS (show sameF (FL b) (AObj.ren [0, 1, 7, 5] (FL b)) from qxw (by simp))) <| oA (oS (show sameF (AObj.flat true (ints .i64 (dN (nd a - (0 + 1) + 1) (10 * (a / 10 ^ (0 + 1) / b) + byY a b 0 / b)))) (AObj.ren [0, 1, 7, 5] (AObj.flat true (ints .i64 (dN (nd a) (a / b))))) from qxw (by rw [by_q hb hk]; simp))) <| oS (show sameF (FT (a / 10 ^ 0 % b)) (AObj.ren [0, 1, 7, 5] (FT (a % b))) from qxw (by simp))) (by kernel_rfl)
def by_out (a b : Nat) : AState :=
  ⟨([none, none, none, none, none, none, some (AV.dsl 2 (nd a)), some (AV.dsl 3 (nd (a % b)))] ++ nn 33), [some (FL a), some (FL b), some (AObj.flat true (ints .i64 (dN (nd a) (a / b)))), some (FT (a % b)), none, none, none, none]⟩
theorem by_last (a b : Nat) : Tri Try.prog (loopN (qzx Try.f67) 0) (by_done a b) (.exit 0) (by_out a b) 2 := by
  exact qxz [rG [hhB 1 false]]
    (oS (show AV.bool (decide (((-1) : Int) ≥ 0)) = jB false from boolE (by decide)))
    (oA (oR [AV.dsl 2 (nd a), AV.dsl 3 (nd (a % b))]) <| oA (oS (show sameF (FL a) (FL a) from qzt (by simp))) <| oA (oS (show sameF (FL b) (FL b) from qzt (by simp))) <| oA (oS (show sameF (AObj.flat true (ints .i64 (dN (nd a) (a / b)))) (AObj.flat true (ints .i64 (dN (nd a) (a / b)))) from qzt (by simp))) <| oS (show sameF (FT (a % b)) (FT (a % b)) from qzt (by simp))) (by kernel_rfl)
def byAt (a b : Nat) : Nat → AState
  | 0 => by_done a b
  | k + 1 => by_inv a b k
theorem by_loop (a b : Nat) (ha : nd a < 900000) (hbl : nd b < 900000) (hb : 0 < b) : Tri Try.prog (.loop (loopN (qzx Try.f67) 0)) (byAt a b (nd a)) (.exit 0) (by_out a b) 2 :=
  tri_down (byAt a b) (ne_normal_exit 0) (nd a) (fun k hk => by
    cases k with
    | zero => exact by_round0 a b ha hbl hb hk
    | succ k => exact by_round a b k ha hbl hb hk) (by_last a b) (nd a) (Nat.le_refl _)
theorem by_fit {a b : Nat} : nd (a / b) ≤ nd a := nd_mono (Nat.div_le_self a b)
theorem by_meets (a b : Nat) (ha : nd a < 900000) (hbl : nd b < 900000) (hb : 0 < b) : Meets Try.prog 67 [AV.dsl 0 (nd a), AV.dsl 1 (nd b)] [FL a, FL b] (jT [AV.dsl 2 (nd (a / b)), AV.dsl 3 (nd (a % b))]) [FL a, FL b, FT (a / b), FT (a % b)] := by
  let q1 : List Orc := [rG [], rG [(0, {nm := [2], view := 1})], rG [(0, {nm := [3], view := 1})], rG [hhI 2 (((nd a : Nat) : Int) - 1)]]
  by_cases c1 : nd a = 0
  · exact qzy (fn := Try.f67) 6 (q1 ++ [.loop (⟨([some (AV.dsl 0 (nd a)), some (AV.dsl 1 (nd b)), none, none, none, none, some (AV.dsl 2 (nd a)), some (AV.dsl 3 (nd (a % b))), sI (-1)] ++ nn 32), [some (FL a), some (FL b), some (AObj.flat true (ints .i64 (dN (nd a) (a / b)))), some (FT (a % b)), none, none, none, none]⟩) (.exit 0) (⟨([none, none, none, none, none, none, some (AV.dsl 2 (nd a)), some (AV.dsl 3 (nd (a % b)))] ++ nn 33), [some (FL a), some (FL b), some (AObj.flat true (ints .i64 (dN (nd a) (a / b)))), some (FT (a % b)), none, none, none, none]⟩), rG [(1, {call := some ⟨[2], [AV.dsl 0 (nd a)], [AObj.flat false (ints .i64 (dN (nd a) (a / b)))], AV.dsl 0 (nd (a / b)), [AObj.flat false (ints .i64 (dN (nd a) (a / b)))]⟩, val := some (AV.dsl 2 (nd (a / b)))})]]) [{}, {}] Try.func67 (by kernel_rfl) Try.call67
      (oA (oW ((((nd a) : Nat) : Int) - 1) (((nd a : Nat) : Int) - 1) (by omega)) <| oA (oR [AV.dsl 0 (nd a), AV.dsl 1 (nd b)]) <| oA (oS (show AV.dsl 2 0 = AV.dsl 2 (nd a) from dslE (by omega))) <| oA (oS (show AV.dsl 3 0 = AV.dsl 3 (nd (a % b)) from dslE (by rw [nd_eq_zero c1, Nat.zero_mod, nd_zero]))) <| oA (oS (show jI (((nd a : Nat) : Int) - 1) = jI (-1) from intE (by omega))) <| oA (oS (show sameF (FL a) (FL a) from qzt (by simp))) <| oA (oS (show sameF (FL b) (FL b) from qzt (by simp))) <| oA (oS (show sameF (AObj.flat true (ints .i64 ([] : List Int))) (AObj.flat true (ints .i64 (dN (nd a) (a / b)))) from qzt (by rw [c1]; rfl))) <| oA (oS (show sameF (AObj.flat true (ints .i64 ([] : List Int))) (FT (a % b)) from qzt (by rw [nd_eq_zero c1, Nat.zero_mod, dg_zero]; rfl))) <| oA (oS (show Tri Try.prog (.loop (loopN (qzx Try.f67) 0)) (⟨([some (AV.dsl 0 (nd a)), some (AV.dsl 1 (nd b)), none, none, none, none, some (AV.dsl 2 (nd a)), some (AV.dsl 3 (nd (a % b))), sI (-1)] ++ nn 32), [some (FL a), some (FL b), some (AObj.flat true (ints .i64 (dN (nd a) (a / b)))), some (FT (a % b)), none, none, none, none]⟩) (.exit 0) (⟨([none, none, none, none, none, none, some (AV.dsl 2 (nd a)), some (AV.dsl 3 (nd (a % b)))] ++ nn 33), [some (FL a), some (FL b), some (AObj.flat true (ints .i64 (dN (nd a) (a / b)))), some (FT (a % b)), none, none, none, none]⟩) 2 from (by have h := by_loop a b ha hbl hb; rw [c1] at h; exact h))) <| oA (oS (show [AV.dsl 2 (nd a)] = renL [2] [AV.dsl 0 (nd a)] from rfl)) <| oA (oS (show Meets Try.prog 35 [AV.dsl 0 (nd a)] [AObj.flat false (ints .i64 (dN (nd a) (a / b)))] (AV.dsl 0 (nd (a / b))) [AObj.flat false (ints .i64 (dN (nd a) (a / b)))] from rtrim_meets (nd a) (a / b) (by omega) by_fit)) <| oA (oS (show Fits (AObj.flat true (ints .i64 (dN (nd a) (a / b)))) (AObj.ren [2] (AObj.flat false (ints .i64 (dN (nd a) (a / b))))) from Fits.ints (by simp))) <| oS (show AV.ren [2] (AV.dsl 0 (nd (a / b))) = AV.dsl 2 (nd (a / b)) from rfl))
      (oA (oS (@rfl _ (jT [AV.dsl 2 (nd (a / b)), AV.dsl 3 (nd (a % b))]))) <| oA (oS (show Avoid (fun n => decide (4 ≤ n)) (jT [AV.dsl 2 (nd (a / b)), AV.dsl 3 (nd (a % b))]) from Avoid.tuple (AvoidL.cons (Avoid.dsl rfl) (AvoidL.cons (Avoid.dsl rfl) (AvoidL.nil _))))) <| oA (oS (show Fits (FL a) (FL a) from Fits.refl _)) <| oA (oS (show AvoidO (fun n => decide (4 ≤ n)) (FL a) from AvoidO.flat (AvoidL.ints _ _ _))) <| oA (oS (show Fits (FL b) (FL b) from Fits.refl _)) <| oA (oS (show AvoidO (fun n => decide (4 ≤ n)) (FL b) from AvoidO.flat (AvoidL.ints _ _ _))) <| oA (oS (show Fits (AObj.flat true (ints .i64 (dN (nd a) (a / b)))) (FT (a / b)) from Fits.ints' (by rw [qxu]; exact dN_take by_fit))) <| oA (oS (show AvoidO (fun n => decide (4 ≤ n)) (FT (a / b)) from AvoidO.flat (AvoidL.ints _ _ _))) <| oA (oS (show Fits (FT (a % b)) (FT (a % b)) from Fits.refl _)) <| oS (show AvoidO (fun n => decide (4 ≤ n)) (FT (a % b)) from AvoidO.flat (AvoidL.ints _ _ _))) (by kernel_rfl)
  · exact qzy (fn := Try.f67) 6 (q1 ++ [.loop (⟨([some (AV.dsl 0 (nd a)), some (AV.dsl 1 (nd b)), none, none, none, none, some (AV.dsl 2 (nd a - (nd a - 1 + 1))), some (AV.dsl 3 (nd (a / 10 ^ (nd a - 1 + 1) % b))), sI ((nd a - 1 : Nat) : Int)] ++ nn 32), [some (FL a), some (FL b), some (AObj.flat true (ints .i64 (dN (nd a - (nd a - 1 + 1)) (a / 10 ^ (nd a - 1 + 1) / b)))), some (FT (a / 10 ^ (nd a - 1 + 1) % b)), none, none, none, none]⟩) (.exit 0) (⟨([none, none, none, none, none, none, some (AV.dsl 2 (nd a)), some (AV.dsl 3 (nd (a % b)))] ++ nn 33), [some (FL a), some (FL b), some (AObj.flat true (ints .i64 (dN (nd a) (a / b)))), some (FT (a % b)), none, none, none, none]⟩), rG [(1, {call := some ⟨[2], [AV.dsl 0 (nd a)], [AObj.flat false (ints .i64 (dN (nd a) (a / b)))], AV.dsl 0 (nd (a / b)), [AObj.flat false (ints .i64 (dN (nd a) (a / b)))]⟩, val := some (AV.dsl 2 (nd (a / b)))})]]) [{}, {}] Try.func67 (by kernel_rfl) Try.call67
      (oA (oW ((((nd a) : Nat) : Int) - 1) (((nd a : Nat) : Int) - 1) (by omega)) <| oA (oR [AV.dsl 0 (nd a), AV.dsl 1 (nd b)]) <| oA (oS (show AV.dsl 2 0 = AV.dsl 2 (nd a - (nd a - 1 + 1)) from dslE (by omega))) <| oA (oS (show AV.dsl 3 0 = AV.dsl 3 (nd (a / 10 ^ (nd a - 1 + 1) % b)) from dslE (by rw [show nd a - 1 + 1 = nd a by omega, nd_div, Nat.zero_mod, nd_zero]))) <| oA (oS (show jI (((nd a : Nat) : Int) - 1) = jI ((nd a - 1 : Nat) : Int) from intE (by omega))) <| oA (oS (show sameF (FL a) (FL a) from qzt (by simp))) <| oA (oS (show sameF (FL b) (FL b) from qzt (by simp))) <| oA (oS (show sameF (AObj.flat true (ints .i64 ([] : List Int))) (AObj.flat true (ints .i64 (dN (nd a - (nd a - 1 + 1)) (a / 10 ^ (nd a - 1 + 1) / b)))) from qzt (by rw [show nd a - 1 + 1 = nd a by omega, Nat.sub_self]; rfl))) <| oA (oS (show sameF (AObj.flat true (ints .i64 ([] : List Int))) (FT (a / 10 ^ (nd a - 1 + 1) % b)) from qzt (by rw [show nd a - 1 + 1 = nd a by omega, nd_div, Nat.zero_mod, dg_zero]; rfl))) <| oA (oS (show Tri Try.prog (.loop (loopN (qzx Try.f67) 0)) (⟨([some (AV.dsl 0 (nd a)), some (AV.dsl 1 (nd b)), none, none, none, none, some (AV.dsl 2 (nd a - (nd a - 1 + 1))), some (AV.dsl 3 (nd (a / 10 ^ (nd a - 1 + 1) % b))), sI ((nd a - 1 : Nat) : Int)] ++ nn 32), [some (FL a), some (FL b), some (AObj.flat true (ints .i64 (dN (nd a - (nd a - 1 + 1)) (a / 10 ^ (nd a - 1 + 1) / b)))), some (FT (a / 10 ^ (nd a - 1 + 1) % b)), none, none, none, none]⟩) (.exit 0) (⟨([none, none, none, none, none, none, some (AV.dsl 2 (nd a)), some (AV.dsl 3 (nd (a % b)))] ++ nn 33), [some (FL a), some (FL b), some (AObj.flat true (ints .i64 (dN (nd a) (a / b)))), some (FT (a % b)), none, none, none, none]⟩) 2 from (by have h := by_loop a b ha hbl hb; rw [show nd a = nd a - 1 + 1 by omega] at h; exact h))) <| oA (oS (show [AV.dsl 2 (nd a)] = renL [2] [AV.dsl 0 (nd a)] from rfl)) <| oA (oS (show Meets Try.prog 35 [AV.dsl 0 (nd a)] [AObj.flat false (ints .i64 (dN (nd a) (a / b)))] (AV.dsl 0 (nd (a / b))) [AObj.flat false (ints .i64 (dN (nd a) (a / b)))] from rtrim_meets (nd a) (a / b) (by omega) by_fit)) <| oA (oS (show Fits (AObj.flat true (ints .i64 (dN (nd a) (a / b)))) (AObj.ren [2] (AObj.flat false (ints .i64 (dN (nd a) (a / b))))) from Fits.ints (by simp))) <| oS (show AV.ren [2] (AV.dsl 0 (nd (a / b))) = AV.dsl 2 (nd (a / b)) from rfl))
      (oA (oS (@rfl _ (jT [AV.dsl 2 (nd (a / b)), AV.dsl 3 (nd (a % b))]))) <| oA (oS (show Avoid (fun n => decide (4 ≤ n)) (jT [AV.dsl 2 (nd (a / b)), AV.dsl 3 (nd (a % b))]) from Avoid.tuple (AvoidL.cons (Avoid.dsl rfl) (AvoidL.cons (Avoid.dsl rfl) (AvoidL.nil _))))) <| oA (oS (show Fits (FL a) (FL a) from Fits.refl _)) <| oA (oS (show AvoidO (fun n => decide (4 ≤ n)) (FL a) from AvoidO.flat (AvoidL.ints _ _ _))) <| oA (oS (show Fits (FL b) (FL b) from Fits.refl _)) <| oA (oS (show AvoidO (fun n => decide (4 ≤ n)) (FL b) from AvoidO.flat (AvoidL.ints _ _ _))) <| oA (oS (show Fits (AObj.flat true (ints .i64 (dN (nd a) (a / b)))) (FT (a / b)) from Fits.ints' (by rw [qxu]; exact dN_take by_fit))) <| oA (oS (show AvoidO (fun n => decide (4 ≤ n)) (FT (a / b)) from AvoidO.flat (AvoidL.ints _ _ _))) <| oA (oS (show Fits (FT (a % b)) (FT (a % b)) from Fits.refl _)) <| oS (show AvoidO (fun n => decide (4 ≤ n)) (FT (a % b)) from AvoidO.flat (AvoidL.ints _ _ _))) (by kernel_rfl)
end Go.Proofs.Ytmgiefeggkikcaa.Rr
set_option maxHeartbeats 4000000
namespace Go.Proofs.Ytmgiefeggkikcaa.Rr
open Go Sx Rf Dc
theorem nd_one : nd 1 = 1 := by rw [nd_pos (by decide), show 1 / 10 = 0 from rfl, nd_zero]
theorem dg_one : dg 1 = [1] := by rw [dg, nd_one]; rfl
theorem nd_pow {x k : Nat} : nd (x * 10 ^ k) ≤ nd x + k := nd_le (by
  rw [Nat.pow_add]; exact (Nat.mul_lt_mul_right (Nat.pow_pos (by decide))).2 (lt_nd x))
theorem nd_small {n : Nat} (h : n < 10 ^ 20) : nd n ≤ 20 := nd_le h
def low_inv (m e : Int) : AState :=
  ⟨([sI m, sI e, none, none, sP 0 0] ++ nn 17), [some (jC [jI 0, jI 0] 23)]⟩
theorem low_round (m e : Int) (h : -9223372036854775808 < m ∧ m < 9223372036854775808) (he : -100 ≤ e ∧ e ≤ 9) (h1 : e < 9) (h2 : m.tmod 10 = 0) : Tri Try.prog (loopN (qzx Try.f70) 0) (low_inv m e) .normal (low_inv (m.tdiv 10) (e + 1)) := by
  exact qxz [rG [hhB 2 true, hhB 5 true], rG [hhI 1 (m.tdiv 10)], rG [hhI 1 (e + 1)]]
    (oA (oS (show (10 : Int) ≠ 0 from by decide)) <| oA (oS (eqT h2)) <| oA (oS (bT h1)) <| oA (oS (show (10 : Int) ≠ 0 from by decide)) <| oA (oS (show AV.int .i64 (IntKind.i64.wrap (m.tdiv 10)) = jI (m.tdiv 10) from tdivI (by omega))) <| oWs (e + 1) (by omega))
    (oA (oR [jI (m.tdiv 10), jI (e + 1), jP 0 0]) <| oQ [jC [jI 0, jI 0] 23]) (by kernel_rfl)
theorem low_last (m e : Int) (h : -9223372036854775808 < m ∧ m < 9223372036854775808) (he : -100 ≤ e ∧ e ≤ 9) (h1 : ¬ (e < 9 ∧ m.tmod 10 = 0)) : Tri Try.prog (loopN (qzx Try.f70) 0) (low_inv m e) (.exit 0) (low_inv m e) := by
  by_cases c1 : (m.tmod 10) = 0
  · have o1 := oA (oS (show (10 : Int) ≠ 0 from by decide)) <| oS (eqT c1)
    by_cases c2 : e < 9
    · exact absurd ⟨‹_›, ‹_›⟩ h1
    · exact qxz [rG [hhB 2 true, hhB 5 false]]
        (oA o1 <| oS (bF c2))
        (oA (oR [jI m, jI e, jP 0 0]) <| oQ [jC [jI 0, jI 0] 23]) (by kernel_rfl)
  · exact qxz [rG [hhB 2 false]]
      (oA (oS (show (10 : Int) ≠ 0 from by decide)) <| oS (eqF c1))
      (oA (oR [jI m, jI e, jP 0 0]) <| oQ [jC [jI 0, jI 0] 23]) (by kernel_rfl)
theorem low_loop : ∀ (n : Nat) (m e : Int), n = (9 - e).toNat → (-9223372036854775808 < m ∧ m < 9223372036854775808) → (-100 ≤ e ∧ e ≤ 9) →
    Tri Try.prog (.loop (loopN (qzx Try.f70) 0)) (low_inv m e) (.exit 0) (low_inv (trimD n m e).1 (trimD n m e).2) := by
  intro n m e hn hm he
  refine tri_loop (ι := {p : Int × Int // (-9223372036854775808 < p.1 ∧ p.1 < 9223372036854775808) ∧ (-100 ≤ p.2 ∧ p.2 ≤ 9) ∧ trimD (9 - p.2).toNat p.1 p.2 = trimD n m e}) (fun i => low_inv i.1.1 i.1.2) (fun i => (9 - i.1.2).toNat) (ne_normal_exit 0) ?_ ⟨(m, e), hm, he, by rw [hn]⟩
  rintro ⟨⟨m', e'⟩, h1, h2, h3⟩
  simp only at h1 h2 h3
  by_cases hc : e' < 9 ∧ m'.tmod 10 = 0
  · have e1 : (9 - e').toNat = (9 - (e' + 1)).toNat + 1 := by omega
    rw [e1, trimD, if_pos hc.2] at h3
    have hb := tdiv_range (y := 10) h1
    exact .inl ⟨⟨(m'.tdiv 10, e' + 1), hb, by simp only; omega, h3⟩, by simp only; omega, low_round m' e' h1 h2 hc.1 hc.2⟩
  · have e1 : trimD (9 - e').toNat m' e' = (m', e') := by
      by_cases h9 : e' = 9
      · rw [h9]; rfl
      · have : (9 - e').toNat = (9 - (e' + 1)).toNat + 1 := by omega
        rw [this, trimD, if_neg (by omega)]
    rw [e1] at h3
    have hx : low_inv m' e' = low_inv (trimD n m e).1 (trimD n m e).2 := by rw [← h3]
    exact .inr (Eq.subst (motive := fun s => Tri _ _ (low_inv m' e') (.exit 0) s) hx (low_last m' e' h1 h2 hc))
theorem lowest_meets (m e : Int) (h : -9223372036854775808 < m ∧ m < 9223372036854775808) (he : -100 ≤ e ∧ e ≤ 9) : Meets Try.prog 70 [jI m, jI e] [] (jA [jI ((qzw m e).1), jI ((qzw m e).2)]) [] := by
  let q1 : List Orc := [rG [hhN 0 0]]
  by_cases c1 : m = 0
  · exact qzy (fn := Try.f70) 1 (q1 ++ [rG [hhB 1 true], rG [(1, {obj := some [jC [jI 0, jI 0] 23]})]]) [{val := some (jA [jI 0, jI 0])}] Try.func70 (by kernel_rfl) Try.call70
      (oA (oS (eqT c1)) <| oSw ([jI 0, jI 0]) ([jI 0, jI 0]) 23 (rfl) (rfl))
      (oA (oLw ([jI 0, jI 0]) (rfl)) <| oA (oS (show jA [jI 0, jI 0] = jA [jI ((qzw m e).1), jI ((qzw m e).2)] from by simp [qzw, *])) <| oV (D := (fun n => decide (0 ≤ n))) (jA [jI ((qzw m e).1), jI ((qzw m e).2)]) rfl) (by kernel_rfl)
  · exact qzy (fn := Try.f70) 1 (q1 ++ [rG [hhB 1 false], .loop (⟨([sI m, sI e, none, none, sP 0 0] ++ nn 17), [some (jC [jI 0, jI 0] 23)]⟩) (.exit 0) (⟨([sI ((trimD (9 - e).toNat m e).1), sI ((trimD (9 - e).toNat m e).2), none, none, sP 0 0] ++ nn 17), [some (jC [jI 0, jI 0] 23)]⟩), rG [hhV 2 (jA [jI ((trimD (9 - e).toNat m e).1), jI ((trimD (9 - e).toNat m e).2)]), (3, {obj := some [jC [jI ((trimD (9 - e).toNat m e).1), jI ((trimD (9 - e).toNat m e).2)] 23]})]]) [{val := some (jA [jI ((trimD (9 - e).toNat m e).1), jI ((trimD (9 - e).toNat m e).2)])}] Try.func70 (by kernel_rfl) Try.call70
      (oA (oS (eqF c1)) <| oA (oR [jI m, jI e, jP 0 0]) <| oA (oQ [jC [jI 0, jI 0] 23]) <| oA (oS (show Tri Try.prog (.loop (loopN (qzx Try.f70) 0)) (⟨([sI m, sI e, none, none, sP 0 0] ++ nn 17), [some (jC [jI 0, jI 0] 23)]⟩) (.exit 0) (⟨([sI ((trimD (9 - e).toNat m e).1), sI ((trimD (9 - e).toNat m e).2), none, none, sP 0 0] ++ nn 17), [some (jC [jI 0, jI 0] 23)]⟩) from low_loop _ m e rfl h he)) <| oA (oS (show ([jI ((trimD (9 - e).toNat m e).1)] : List AV).length = 1 from rfl)) <| oA (oS (show 0 + 1 ≤ ([jI 0, jI 0] : List AV).length from Nat.le_of_ble_eq_true (by kernel_rfl))) <| oA (oS (show ([jI ((trimD (9 - e).toNat m e).2)] : List AV).length = 1 from rfl)) <| oA (oS (show 1 + 1 ≤ (List.take 0 [jI 0, jI 0] ++ [jI ((trimD (9 - e).toNat m e).1)] ++ List.drop 1 [jI 0, jI 0] : List AV).length from Nat.le_of_ble_eq_true (by kernel_rfl))) <| oA (oS (show AV.agg (List.take 1 (List.take 0 [jI 0, jI 0] ++ [jI ((trimD (9 - e).toNat m e).1)] ++ List.drop 1 [jI 0, jI 0]) ++ [jI ((trimD (9 - e).toNat m e).2)] ++ List.drop 2 (List.take 0 [jI 0, jI 0] ++ [jI ((trimD (9 - e).toNat m e).1)] ++ List.drop 1 [jI 0, jI 0])) = jA [jI ((trimD (9 - e).toNat m e).1), jI ((trimD (9 - e).toNat m e).2)] from by kernel_rfl)) <| oSw ([jI ((trimD (9 - e).toNat m e).1), jI ((trimD (9 - e).toNat m e).2)]) ([jI 0, jI 0]) 23 (rfl) (rfl))
      (oA (oLw ([jI ((trimD (9 - e).toNat m e).1), jI ((trimD (9 - e).toNat m e).2)]) (rfl)) <| oA (oS (show jA [jI ((trimD (9 - e).toNat m e).1), jI ((trimD (9 - e).toNat m e).2)] = jA [jI ((qzw m e).1), jI ((qzw m e).2)] from by simp [qzw, *])) <| oV (D := (fun n => decide (0 ≤ n))) (jA [jI ((qzw m e).1), jI ((qzw m e).2)]) rfl) (by kernel_rfl)
def rndE (n d : Nat) : Nat := if d < n % d + n % d ∨ (¬ n % d + n % d < d ∧ n / d / 10 ^ 0 % 10 % 2 = 1) then n / d + 1 else n / d
abbrev nE (N : Nat) (e : Int) : Nat := N * 10 ^ (Int.toNat (-e))
abbrev dE (M : Nat) (e : Int) : Nat := M * 10 ^ (Int.toNat e)
def nearG (N M : Nat) : Nat → Nat → Option (Nat × Int)
  | 0, _ => none
  | f + 1, j => if rndE (nE N ((j : Int) - 9)) (dE M ((j : Int) - 9)) ≤ 999999999999999 then some (rndE (nE N ((j : Int) - 9)) (dE M ((j : Int) - 9)), (j : Int) - 9) else nearG N M f (j + 1)
def sgn (b : Bool) (x : Int) : Int := if b = true then -x else x
def nearDo (b : Bool) : Option (Nat × Int) → Int × Int
  | none => (0, 0)
  | some (q, e) => (sgn b (qzw q e).1, (qzw q e).2)
def nearXo : Option (Nat × Int) → Int
  | none => 10
  | some _ => 0
def nearD (b : Bool) (N M : Nat) : Int × Int := nearDo b (nearG N M 19 0)
def nearX (N M : Nat) : Int := nearXo (nearG N M 19 0)
theorem rnd_up {n d : Nat} (h : d < n % d + n % d ∨ (¬ n % d + n % d < d ∧ n / d / 10 ^ 0 % 10 % 2 = 1)) : n / d + 1 = rndE n d := by rw [rndE, if_pos h]
theorem rnd_dn {n d : Nat} (h : ¬ (d < n % d + n % d ∨ (¬ n % d + n % d < d ∧ n / d / 10 ^ 0 % 10 % 2 = 1))) : n / d = rndE n d := by rw [rndE, if_neg h]
theorem trimD_le : ∀ (n : Nat) (m e : Int), ((trimD n m e).1.natAbs ≤ m.natAbs)
  | 0, m, e => by simp [trimD]
  | n + 1, m, e => by
    rw [trimD]
    split
    · have ih := trimD_le n (m.tdiv 10) (e + 1)
      have h : (m.tdiv 10).natAbs ≤ m.natAbs := by rw [Int.natAbs_tdiv]; exact Nat.div_le_self _ _
      omega
    · simp only []; omega
theorem low_le (m e : Int) : (qzw m e).1.natAbs ≤ m.natAbs := by
  unfold qzw
  split
  · simp
  · exact trimD_le _ _ _
end Go.Proofs.Ytmgiefeggkikcaa.Rr
namespace Go.Proofs.Ytmgiefeggkikcaa
open Go Sx Rf Dc Rr
theorem rnd_scale {n d c : Nat} (hc : 0 < c) : rndE (n * c) (d * c) = rndE n d := by
  unfold rndE
  rw [Nat.mul_mod_mul_right, Nat.mul_div_mul_right _ _ hc, ← Nat.add_mul]
  have h1 : d * c < (n % d + n % d) * c ↔ d < n % d + n % d := Nat.mul_lt_mul_right hc
  have h2 : (n % d + n % d) * c < d * c ↔ n % d + n % d < d := Nat.mul_lt_mul_right hc
  simp only [h1, h2]
theorem rnd_ratio {n d n' d' : Nat} (hd : 0 < d) (hd' : 0 < d') (h : n * d' = n' * d) : rndE n d = rndE n' d' := by
  rw [← rnd_scale (n := n) (d := d) hd', h, Nat.mul_comm d d', rnd_scale hd]
theorem even_rnd {n b T g : Nat} (hb : 0 < b) (hT : 1 ≤ T) (hT2 : T ≤ 88) (hg1 : g ∣ n) (hg2 : g ∣ b * (5 * 10 ^ (T - 1))) (hbg : b ≤ g) (hV : n / b < 10 ^ 88) :
    evenN (digs 88 ((n / b : Nat) : Int)) (88 - T) = ((rndE n (b * 10 ^ T) : Nat) : Int) := by
  have hp : (10 : Int) ^ T = ((10 ^ T : Nat) : Int) := by push_cast; rfl
  have t10 : 10 ^ T = 2 * (5 * 10 ^ (T - 1)) := by
    obtain ⟨k, rfl⟩ : ∃ k, T = k + 1 := ⟨T - 1, by omega⟩
    rw [Nat.add_sub_cancel, Nat.pow_succ]; omega
  have htake : val ((digs 88 ((n / b : Nat) : Int)).take (88 - T)) = ((n / (b * 10 ^ T) : Nat) : Int) := by
    rw [digs_take _ (by omega), val_digs_mod, show 88 - (88 - T) = T by omega, hp, ← Int.natCast_ediv, Nat.div_div_eq_div_mul]
    have hlt : n / b / 10 ^ T < 10 ^ (88 - T) := by
      refine Nat.div_lt_of_lt_mul ?_
      rw [← Nat.pow_add, show T + (88 - T) = 88 by omega]; exact hV
    rw [Nat.div_div_eq_div_mul] at hlt
    rw [show (10 : Int) ^ (88 - T) = ((10 ^ (88 - T) : Nat) : Int) by push_cast; rfl, ← Int.natCast_emod, Nat.mod_eq_of_lt hlt]
  have hdrop : (digs 88 ((n / b : Nat) : Int)).drop (88 - T) = digs T ((n / b : Nat) : Int) := by
    rw [digs_drop _ (by omega), show 88 - (88 - T) = T by omega]
  have hrest : val (digs T ((n / b : Nat) : Int)) = ((n % (b * 10 ^ T) / b : Nat) : Int) := by
    rw [val_digs_mod, hp, ← Int.natCast_emod, Nat.mod_mul_right_div_self]
  unfold evenN upB
  rw [htake, hdrop, hrest, qyz]
  rw [show (5 : Int) * 10 ^ (T - 1) = ((5 * 10 ^ (T - 1) : Nat) : Int) by push_cast; rfl]
  unfold rndE
  generalize hh : 5 * 10 ^ (T - 1) = half at *
  have hgR : g ∣ n % (b * 10 ^ T) := (Nat.dvd_mod_iff (by rw [t10, show b * (2 * half) = b * half * 2 by rw [Nat.mul_comm 2, Nat.mul_assoc]]; exact Nat.dvd_mul_right_of_dvd hg2 2)).2 hg1
  rw [t10] at *
  generalize n % (b * (2 * half)) = rem at *
  generalize n / (b * (2 * half)) = q at *
  have hgap : b * half < rem → b * half + b ≤ rem := fun h => by
    have h1 : g ∣ rem - b * half := Nat.dvd_sub hgR hg2
    have h2 := Nat.le_of_dvd (by omega) h1
    omega
  have e2 : b * (2 * half) = b * half + b * half := by rw [Nat.two_mul, Nat.mul_add]
  have d1 := Nat.div_add_mod rem b
  have d2 := Nat.mod_lt rem hb
  generalize rem / b = t at *
  generalize rem % b = z at *
  have key : (decide (((half : Nat) : Int) < (t : Int) ∨ (t : Int) = ((half : Nat) : Int) ∧ ((q : Nat) : Int) % 2 = 1) = true) ↔ (b * (2 * half) < rem + rem ∨ (¬ rem + rem < b * (2 * half) ∧ q / 10 ^ 0 % 10 % 2 = 1)) := by
    rw [decide_eq_true_eq, e2, Nat.pow_zero, Nat.div_one]
    rcases Nat.lt_trichotomy t half with c | c | c
    · have := Nat.mul_le_mul_left b (Nat.succ_le_of_lt c)
      rw [Nat.mul_succ] at this
      constructor
      · intro h; omega
      · intro h; omega
    · subst c
      constructor
      · intro h; right; omega
      · intro h
        right
        refine ⟨rfl, ?_⟩
        rcases h with h | h
        · have := hgap (by omega); omega
        · omega
    · have := Nat.mul_le_mul_left b (Nat.succ_le_of_lt c)
      rw [Nat.mul_succ] at this
      constructor
      · intro h; left; omega
      · intro h; left; omega
  by_cases hk : (b * (2 * half) < rem + rem ∨ (¬ rem + rem < b * (2 * half) ∧ q / 10 ^ 0 % 10 % 2 = 1))
  · rw [if_pos hk, if_pos (key.2 hk)]; push_cast; rfl
  · rw [if_neg hk, if_neg (fun h => hk (key.1 h))]
theorem trimD_neg : ∀ (n : Nat) (m e : Int), trimD n (-m) e = (-(trimD n m e).1, (trimD n m e).2)
  | 0, m, e => rfl
  | n + 1, m, e => by
    simp only [trimD]
    rw [Int.neg_tmod, Int.neg_tdiv]
    by_cases h : m.tmod 10 = 0
    · rw [if_pos (by omega), if_pos h, trimD_neg n]
    · rw [if_neg (by omega), if_neg h]
theorem trimmedS_sgn (b : Bool) (m e : Int) : qzw (if b = true then -m else m) e = (sgn b (qzw m e).1, (qzw m e).2) := by
  cases b with
  | false => simp [sgn]
  | true =>
    simp only [if_true, sgn, qzw]
    by_cases h : m = 0
    · subst h; simp
    · rw [if_neg (by omega), if_neg h, trimD_neg]
theorem go_bridge {ds : List Int} {N M : Nat} (h : ∀ j, j < 19 → evenN ds (57 - j) = ((rndE (nE N ((j : Int) - 9)) (dE M ((j : Int) - 9)) : Nat) : Int)) : ∀ (f j : Nat), f + j ≤ 19 → nearGo ds f j = (nearG N M f j).map fun p => ((p.1 : Int), p.2)
  | 0, j, _ => rfl
  | f + 1, j, hj => by
    simp only [nearGo, nearG]
    rw [h j (by omega)]
    by_cases c : rndE (nE N ((j : Int) - 9)) (dE M ((j : Int) - 9)) ≤ 999999999999999
    · rw [if_pos c, if_pos (by omega)]; rfl
    · rw [if_neg c, if_neg (by omega)]; exact go_bridge h f (j + 1) (by omega)
theorem near_bridge {ds : List Int} {N M : Nat} (mx : Bool) (h : ∀ j, j < 19 → evenN ds (57 - j) = ((rndE (nE N ((j : Int) - 9)) (dE M ((j : Int) - 9)) : Nat) : Int)) : nearM mx ds = nearD mx N M ∧ nearE ds = nearX N M := by
  have hg := go_bridge h 19 0 (by omega)
  unfold nearM nearE nearD nearX
  rw [hg]
  cases nearG N M 19 0 with
  | none => exact ⟨rfl, rfl⟩
  | some p => exact ⟨trimmedS_sgn mx _ _, rfl⟩
end Go.Proofs.Ytmgiefeggkikcaa
namespace Go.Proofs.Ytmgiefeggkikcaa.Sx
open Go
variable {P : Program}
theorem goes_ret {R : Type} {H : Hd (Ex × PState)} (hH : HOK P H) {lv : Lv} {NF m n : Nat} {fn : Func} {pre : List PObj} {k : AV → List PObj → Option R} {c : Code} {kn kx : Nat → Bool} (hl : LoopsOK P lv pre.length c) {s st : PState} {r : R}
    (h1 : runsC H P lv pre.length NF m (endK pre.length NF kn kx) n c s = some (.ret, st)) (h2 : finP P fn pre.length pre k .ret st = some r) : GoesTo P fn pre k c s r := by
  rcases runsC_sound hH n c hl s h1 with ⟨ex1, s1, hne, t1, hk⟩ | ⟨s1, t1, hk⟩
  · cases ex1 with
    | normal => exact absurd rfl hne
    | exit id => simp [endK] at hk
    | ret =>
      simp only [endK, Option.map_eq_some_iff, Prod.mk.injEq] at hk
      obtain ⟨t, hc, _, rfl⟩ := hk
      obtain ⟨ob, hren, hob⟩ := compact_ren hc
      exact ⟨.ret, t, Tri.ren _ t1 hren hob, h2⟩
  · simp [endK] at hk
theorem meets_args {f : FuncId} {args args' : List AV} {pre post : List AObj} {res : AV} (h : Meets P f args pre res post) (ha : ∀ E xs, denL E args' = some xs → denL E args = some xs) : Meets P f args' pre res post :=
  fun w E xs hxs hp => h w E xs (ha E xs hxs) hp
theorem meets_fit {f : FuncId} {args : List AV} {pre post : List AObj} {res : AV} {j : Nat} {o' : AObj} {m : Bool} {cs : List AV} (h : Meets P f args pre res post) (hj : pre[j]? = some (.flat m cs)) (hfit : Fits o' (.flat m cs)) (hlv : o'.live = true) (htc : ∀ b c k, touches b c (.flat m cs) k → touches b c o' k) :
    Meets P f args (pre.set j o') res (post.set j o') := by
  intro w E xs hxs hp
  have hjl : j < pre.length := (List.getElem?_eq_some_iff.1 hj).1
  have hv : (pre.set j o')[j]? = some o' := by rw [List.getElem?_set_self hjl]
  obtain ⟨b, cp, hE, hO⟩ := hp.objs j _ hv
  have own : ∀ (n : Nat) (o : AObj), pre[n]? = some o → o.owned = true → n ≠ j := fun n o hn ho e => by
    subst e; rw [hj] at hn; cases hn; cases ho
  have hp' : PreR E w pre := {
    objs := fun n o hn => by
      by_cases e : n = j
      · subst e; rw [hj] at hn; cases hn; exact ⟨b, cp, hE, hfit _ _ _ _ hO⟩
      · exact hp.objs n o (get_set e hn)
    fresh := fun n hn => hp.fresh n (by rw [List.length_set]; exact hn)
    apart := fun n m' o o2 b1 c1 b2 c2 hn hm ho hl e1 e2 hne => by
      have hnj := own n o hn ho
      by_cases e : m' = j
      · subst e
        rw [hj] at hm; cases hm
        exact fun ht => hp.apart n m' o _ b1 c1 b2 c2 (get_set hnj hn) hv ho hlv e1 e2 hne (htc _ _ _ ht)
      · exact hp.apart n m' o o2 b1 c1 b2 c2 (get_set hnj hn) (get_set e hm) ho hl e1 e2 hne
    glob := fun g hg => by
      obtain ⟨h1, h2, h3⟩ := hp.glob g hg
      refine ⟨h1, fun ⟨n, o, c', hn, ho, he⟩ => h2 ⟨n, o, c', get_set (own n o hn ho) hn, ho, he⟩, h3⟩ }
  refine (h w E xs hxs hp').mono ?_
  rintro e w' ⟨E', x, he, hd, hq⟩
  refine ⟨E', x, he, hd, ?_⟩
  have hblk : o'.live = true → touches b cp o' b → w'.heap[b]? = w.heap[b]? := fun hl ht => hq.keep b (hO.lt hl ht) fun n o c' hn ho he => by
    have hnj := own n o hn ho
    exact hp.apart n j o _ b c' b cp (get_set hnj hn) hv ho hlv he hE hnj ht
  exact {
    le := hq.le
    cut := fun n hn => hq.cut n (by rw [List.length_set] at hn; exact hn)
    objs := fun n o hn => by
      rcases set_get hn with ⟨rfl, rfl⟩ | ⟨e, hn⟩
      · exact ⟨b, cp, hq.le _ _ hE, (hO.mono hq.le).block hblk⟩
      · exact hq.objs n o hn
    made := fun n b1 c1 o hn ho he ht => by
      rw [List.length_set] at hn
      have hnj : n ≠ j := by omega
      rcases set_get ho with ⟨e, _⟩ | ⟨_, ho⟩
      · exact absurd e hnj
      · rcases hq.made n b1 c1 o hn ho he ht with k | ⟨j', c', o2, k1, k2, k3, k4⟩
        · exact .inl k
        · have hjj := own j' o2 k1 k2
          exact .inr ⟨j', c', o2, get_set hjj k1, k2, get_set hjj k3, k4⟩
    keep := fun k hk hne => hq.keep k hk fun n o c' hn ho => hne n o c' (get_set (own n o hn ho) hn) ho
    newApart := fun n m' o o2 b1 c1 b2 c2 hn hm ho hm' => by
      rw [List.length_set] at hn hm
      rcases set_get ho with ⟨e, _⟩ | ⟨_, ho⟩
      · omega
      · rcases set_get hm' with ⟨e, _⟩ | ⟨_, hm'⟩
        · omega
        · exact hq.newApart n m' o o2 b1 c1 b2 c2 hn hm ho hm'
    grow := hq.grow
    os := hq.os, tape := hq.tape, output := hq.output }
theorem meets_fitV {f : FuncId} {args : List AV} {pre post : List AObj} {res : AV} {j : Nat} {m : Bool} {l l' : List Int} {t : TypeId} (h : Meets P f args pre res post) (hj : pre[j]? = some (.flat m (ints .i64 l'))) (hl : l.take l'.length = l') : Meets P f args (pre.set j (.vec (ints .i64 l) t 1)) res (post.set j (.vec (ints .i64 l) t 1)) :=
  meets_fit h hj (Fits.vec_flat hl) rfl fun b c k ht => ht.2
theorem meets_fitF {f : FuncId} {args : List AV} {pre post : List AObj} {res : AV} {j : Nat} {m m' : Bool} {l l' : List Int} (h : Meets P f args pre res post) (hj : pre[j]? = some (.flat m (ints .i64 l'))) (hl : l.take l'.length = l') : Meets P f args (pre.set j (.flat m' (ints .i64 l))) res (post.set j (.flat m' (ints .i64 l))) :=
  meets_fit h hj (Fits.ints' hl) rfl fun b c k ht => ht
end Go.Proofs.Ytmgiefeggkikcaa.Sx
namespace Go.Proofs.Ytmgiefeggkikcaa
open Go Sx Rf Dc
structure NumF where
  D : Nat → List Int → Nat → List Int → Nat → List Int
  kD : Nat → List Int → Nat → List Int → Nat → Nat
  okD : Nat → List Int → Nat → List Int → Nat → Bool
  T : List Int → Nat → Int → List Int
  kT : List Int → Nat → Int → Nat
  okT : List Int → Nat → Int → Bool
  E : Nat → Int → Int → List Int
  kE : Nat → Int → Int → Nat
  okE : Nat → Int → Int → Bool
  L : List Int → Nat → List Int → Nat → Bool
  okL : List Int → Nat → List Int → Nat → Bool
  A : List Int → Nat → Int → Int
  okA : List Int → Nat → Int → Bool
  V : List Int → Nat → Int
  okV : List Int → Nat → Bool
  O : Int → Int → Int × Int
  okO : Int → Int → Bool
  N : Bool → List Int → Nat → List Int → Nat → Int × Int × Int
  okN : Bool → List Int → Nat → List Int → Nat → Bool
def gD (x : NumF) (o : Nat) : Ent := fun args pre => match args, pre with
  | [.dsl 0 k, .dsl 1 k1], [.flatI f l, .flatI f1 l1] => .chk (x.okD o l k l1 k1) (.ret (.dsl 2 (x.kD o l k l1 k1)) [.flatI f l, .flatI f1 l1, .flatI true (x.D o l k l1 k1)])
  | [.dsl 0 k, .slice 1 0 1 1], [.flatI f l, .raw (.cells [.int .i64 y] t)] => .chk (x.okD o l k [y] 1) (.ret (.dsl 2 (x.kD o l k [y] 1)) [.flatI f l, .raw (.cells [.int .i64 y] t), .flatI true (x.D o l k [y] 1)])
  | [.dsl 0 k, .dsl 0 k1], [.flatI f l] => .chk (x.okD o l k l k1) (.ret (.dsl 1 (x.kD o l k l k1)) [.flatI f l, .flatI true (x.D o l k l k1)])
  | _, _ => .fail
def gBy (x : NumF) : Ent := fun args pre => match args, pre with
  | [.dsl 0 k, .dsl 1 k1], [.flatI f l, .flatI f1 l1] => .chk (x.okD 3 l k l1 k1) (.ret (.tuple [.dsl 2 (x.kD 3 l k l1 k1), .dsl 3 (x.kD 4 l k l1 k1)]) [.flatI f l, .flatI f1 l1, .flatI true (x.D 3 l k l1 k1), .flatI true (x.D 4 l k l1 k1)])
  | _, _ => .fail
def gT (x : NumF) : Ent := fun args pre => match args, pre with
  | [.dsl 0 k, .int .i64 n], [.flatI f l] => .chk (x.okT l k n) (.ret (.dsl 1 (x.kT l k n)) [.flatI f l, .flatI true (x.T l k n)])
  | [.vec 0 k, .int .i64 n], [.vecI .i64 l t] => .chk (x.okT l k n) (.ret (.dsl 1 (x.kT l k n)) [.vecI .i64 l t, .flatI true (x.T l k n)])
  | _, _ => .fail
def gE (x : NumF) (o : Nat) : Ent := fun args pre => match args, pre with
  | [.int .i64 n], [] => .chk (x.okE o n 0) (.ret (.dsl 0 (x.kE o n 0)) [.flatI true (x.E o n 0)])
  | _, _ => .fail
def gW (x : NumF) : Ent := fun args pre => match args, pre with
  | [.agg [.int .i64 n, .int .i64 m]], [] => .chk (x.okE 2 n m) (.ret (.dsl 0 (x.kE 2 n m)) [.flatI true (x.E 2 n m)])
  | _, _ => .fail
def gL (x : NumF) : Ent := fun args pre => match args, pre with
  | [.dsl 0 k, .dsl 1 k1], [.flatI f l, .flatI f1 l1] => .chk (x.okL l k l1 k1) (.ret (.bool (x.L l k l1 k1)) [.flatI f l, .flatI f1 l1])
  | _, _ => .fail
def gA (x : NumF) : Ent := fun args pre => match args, pre with
  | [.dsl 0 k, .int .i64 n], [.flatI f l] => .chk (x.okA l k n) (.ret (.int .i64 (x.A l k n)) [.flatI f l])
  | _, _ => .fail
def gV (x : NumF) : Ent := fun args pre => match args, pre with
  | [.dsl 0 k], [.flatI f l] => .chk (x.okV l k) (.ret (.int .i64 (x.V l k)) [.flatI f l])
  | _, _ => .fail
def gO (x : NumF) : Ent := fun args pre => match args, pre with
  | [.int .i64 n, .int .i64 m], [] => .chk (x.okO n m) (.ret (.agg [.int .i64 (x.O n m).1, .int .i64 (x.O n m).2]) [])
  | _, _ => .fail
def gN (x : NumF) : Ent := fun args pre => match args, pre with
  | [.bool b, .dsl 0 k, .dsl 1 k1], [.flatI f l, .flatI f1 l1] => .chk (x.okN b l k l1 k1) (.ret (R3 (x.N b l k l1 k1)) [.flatI f l, .flatI f1 l1])
  | _, _ => .fail
def tabNr (x : NumF) : Tab := [(38, gT x), (42, gE x 0), (40, gL x), (68, gD x 0), (67, gBy x), (69, gA x), (70, gO x), (71, gV x)]
def nrS (b : Bool) (l l1 : List Int) (k k1 : Nat) (e : Int) : PState := ⟨some (.bool b) :: some (.dsl 0 k) :: some (.dsl 1 k1) :: none :: none :: none :: some (.ptr 2 0) :: some (.int .i64 0) :: some (.int .i64 e) :: List.replicate 56 none, some (.flatI false l) :: some (.flatI false l1) :: some (.raw (.cells [.int .i64 0, .int .i64 0] 23)) :: List.replicate 64 none⟩
def nrF (l l1 : List Int) (t : Int × Int) : PState := ⟨none :: none :: none :: none :: none :: none :: some (.ptr 2 0) :: some (.int .i64 0) :: List.replicate 57 none, some (.flatI false l) :: some (.flatI false l1) :: some (.raw (.cells [.int .i64 t.1, .int .i64 t.2] 23)) :: List.replicate 64 none⟩
def nrS0 (b : Bool) (l l1 : List Int) (k k1 : Nat) : PState := ⟨some (.bool b) :: some (.dsl 0 k) :: some (.dsl 1 k1) :: none :: none :: none :: some (.ptr 2 0) :: some (.int .i64 0) :: List.replicate 57 none, some (.flatI false l) :: some (.flatI false l1) :: some (.raw (.cells [.int .i64 0, .int .i64 0] 23)) :: List.replicate 64 none⟩
def headC (c : Code) : Code := match c with | .seq a _ => a | c => c
def wrN (a : Int) : Int := IntKind.i64.wrap a
abbrev kN : Nat → Bool := fun n => hasN [0, 1, 2, 6, 7, 8] n
abbrev kNx : Nat → Bool := fun n => hasN [6, 7] n
end Go.Proofs.Ytmgiefeggkikcaa
namespace Go.Proofs.Ytmgiefeggkikcaa.Sx
open Go
variable {P : Program}
theorem int_env {A B : Env} {w : World} {b : Nat} {c : Cap} {m : Bool} {l : List Int} (h : ObjR A w b c (.flat m (ints .i64 l))) : ObjR B w b c (.flat m (ints .i64 l)) :=
  ObjR.unren (r := []) (A := A) (B := B) (fun i m p hi => by simp at hi) (by simp only [AObj.ren, qzu]; exact h)
theorem meets_cell {f : FuncId} {k kr : Nat} {m : Bool} {l l2 : List Int} {y : Int} {t : TypeId} (h : Meets P f [.dsl 0 k, .dsl 1 1] [.flat m (ints .i64 l), .flat false (ints .i64 [y])] (.dsl 2 kr) [.flat m (ints .i64 l), .flat false (ints .i64 [y]), .flat true (ints .i64 l2)]) :
    Meets P f [.dsl 0 k, .slice 1 0 1 1] [.flat m (ints .i64 l), .cells [.int .i64 y] t] (.dsl 2 kr) [.flat m (ints .i64 l), .cells [.int .i64 y] t, .flat true (ints .i64 l2)] := by
  intro w E xs hxs hp
  obtain ⟨b, c, hE, hO⟩ := hp.objs 1 _ rfl
  obtain ⟨b0, c0, hE0, hO0⟩ := hp.objs 0 _ rfl
  let B : Env := fun n => match n with | 0 => E 0 | 1 => some (b, { n := 1 }) | n + 2 => E (n + 2)
  have d : denL B [.dsl 0 k, .dsl 1 1] = some xs := by
    obtain ⟨x, zs, hx, hz, rfl⟩ := denL_cons.1 hxs
    obtain ⟨y', us, hy, hu, rfl⟩ := denL_cons.1 hz
    refine denL_cons.2 ⟨x, _, hx, denL_cons.2 ⟨y', us, ?_, hu, rfl⟩, rfl⟩
    rw [← hy]; simp only [den, hE]; rfl
  have hlt : b < w.heap.size := hO.lt rfl rfl
  have hob : ObjR E w b { n := 1 } (.flat false (ints .i64 [y])) := by
    obtain ⟨zs, hz, hw⟩ := hO
    exact ⟨zs, hz, (fun e => by cases e), fun _ => ⟨hlt, fun i x hi => by
      show w.cell? ⟨b, 0 + i, none⟩ = some x
      rw [Nat.zero_add, cell_of_block hw]; simpa using hi⟩⟩
  have hpB : PreR B w [.flat m (ints .i64 l), .flat false (ints .i64 [y])] := {
    objs := fun n o hn => by
      match n, hn with
      | 0, hn => simp at hn; subst hn; exact ⟨b0, c0, hE0, int_env hO0⟩
      | 1, hn => simp at hn; subst hn; exact ⟨b, _, rfl, int_env hob⟩
    fresh := fun n hn => by match n, hn with | n + 2, hn => exact hp.fresh (n + 2) hn
    apart := fun n m' o o' b1 c1 b2 c2 hn hm ho => by
      match n, hn with
      | 0, hn => simp at hn; subst hn; cases ho
      | 1, hn => simp at hn; subst hn; cases ho
    glob := fun g hg => by
      obtain ⟨h1, h2, h3⟩ := hp.glob g hg
      refine ⟨h1, ?_, h3⟩
      rintro ⟨n, o, c', hn, ho, he⟩
      match n, hn with
      | 0, hn => simp at hn; subst hn; cases ho
      | 1, hn => simp at hn; subst hn; cases ho }
  refine (h w B xs d hpB).mono ?_
  rintro e w' ⟨B', x, he, hd, hq⟩
  let E' : Env := fun n => match n with | 0 => B' 0 | 1 => E 1 | n + 2 => B' (n + 2)
  have hk : ∀ k : Nat, k < w.heap.size → w'.heap[k]? = w.heap[k]? := fun k hk => hq.keep k hk fun n o c' hn ho => by
    match n, hn with
    | 0, hn => simp at hn; subst hn; cases ho
    | 1, hn => simp at hn; subst hn; cases ho
  have hle : Env.le E E' := fun n p hn => by
    match n, hn with
    | 0, hn => exact hq.le 0 _ hn
    | 1, hn => exact hn
    | n + 2, hn => rw [hp.fresh (n + 2) (by simp)] at hn; cases hn
  refine ⟨E', x, he, hd, ?_⟩
  exact {
    le := hle
    cut := fun n hn => by
      match n, hn with
      | n + 3, hn => exact hq.cut (n + 3) (by simp)
      | 0, hn => simp at hn
      | 1, hn => simp at hn
      | 2, hn => simp at hn
    objs := fun n o hn => by
      match n, hn with
      | 0, hn =>
        simp at hn; subst hn
        obtain ⟨b2, c2, e2, o2⟩ := hq.objs 0 _ rfl
        exact ⟨b2, c2, e2, int_env o2⟩
      | 1, hn =>
        simp at hn; subst hn
        exact ⟨b, c, hE, (hO.mono hle).block fun _ _ => hk b hlt⟩
      | 2, hn =>
        simp at hn; subst hn
        obtain ⟨b2, c2, e2, o2⟩ := hq.objs 2 _ rfl
        exact ⟨b2, c2, e2, int_env o2⟩
      | n + 3, hn => simp at hn
    made := fun n b1 c1 o hn ho he ht => by
      match n, hn, ho with
      | 2, hn, ho =>
        simp at ho; subst ho
        rcases hq.made 2 b1 c1 _ (by simp) rfl he ht with k | ⟨j', c', o', k1, k2, k3, k4⟩
        · exact .inl k
        · match j', k1 with
          | 0, k1 => simp at k1; subst k1; cases k2
          | 1, k1 => simp at k1; subst k1; cases k2
      | n + 3, hn, ho => simp at ho
      | 0, hn, ho => simp at hn
      | 1, hn, ho => simp at hn
    keep := fun k hk' hne => hk k hk'
    newApart := fun n m' o o' b1 c1 b2 c2 hn hm ho hm' => by
      match n, m', hn, hm with
      | 2, 2, hn, hm => intro _ _ _ _ hne; exact absurd rfl hne
      | n + 3, m', hn, hm => simp at ho
      | 2, m' + 3, hn, hm => simp at hm'
      | 0, m', hn, hm => simp at hn
      | 1, m', hn, hm => simp at hn
      | 2, 0, hn, hm => simp at hm
      | 2, 1, hn, hm => simp at hm
    grow := hq.grow
    os := hq.os, tape := hq.tape, output := hq.output }
end Go.Proofs.Ytmgiefeggkikcaa.Sx
namespace Go.Proofs.Ytmgiefeggkikcaa
open Go Sx Rf Dc Rr
theorem dN_cons {i n : Nat} : dN (i + 1) n = ((n % 10 : Nat) : Int) :: dN i (n / 10) := by
  simp only [dN, List.range_succ_eq_map, List.map_cons, List.map_map, Nat.pow_zero, Nat.div_one]
  congr 1
  apply List.map_congr_left
  intro j _
  simp only [Function.comp]
  rw [Nat.div_div_eq_div_mul, ← Nat.pow_succ']
def numL (l : List Int) : Nat := (val l.reverse).toNat
theorem val_dN : ∀ (i n : Nat), val (dN i n).reverse = ((n % 10 ^ i : Nat) : Int)
  | 0, n => by simp [dN, val, Nat.mod_one]
  | i + 1, n => by
    rw [dN_cons, List.reverse_cons, val_snoc, val_dN i (n / 10)]
    have e : n % 10 ^ (i + 1) = n / 10 % 10 ^ i * 10 + n % 10 := by
      rw [Nat.pow_succ', Nat.mod_mul]; omega
    rw [e]; push_cast; omega
theorem numL_dg (n : Nat) : numL (dg n) = n := by
  unfold numL
  have : dg n = dN (nd n) n := rfl
  rw [this, val_dN, Nat.mod_eq_of_lt (lt_nd n), Int.toNat_natCast]
def nT (l : List Int) (k : Nat) : Nat := numL (l.take k)
def isD (l : List Int) (k : Nat) : Bool := decide (l.take k = dg (nT l k) ∧ k = nd (nT l k) ∧ k ≤ 200000)
theorem isD_get {l : List Int} {k : Nat} (h : isD l k = true) : ∃ a, nT l k = a ∧ l.take (dg a).length = dg a ∧ k = nd a ∧ nd a ≤ 200000 := by
  obtain ⟨h1, h2, h3⟩ := of_decide_eq_true h
  refine ⟨_, rfl, ?_, h2, by omega⟩
  rw [qxu, ← h2]; exact h1
theorem nT_dg (a : Nat) : nT (dg a) (nd a) = a := by
  unfold nT
  rw [List.take_of_length_le (by rw [qxu]; omega), numL_dg]
theorem isD_dg {a : Nat} (h : nd a ≤ 200000) : isD (dg a) (nd a) = true := by
  unfold isD
  rw [nT_dg]
  exact decide_eq_true ⟨List.take_of_length_le (by rw [qxu]; omega), rfl, h⟩
def opD : Nat → Nat → Nat → Nat
  | 0, a, b => a + b
  | 1, a, b => a - b
  | 2, a, b => a * b
  | 3, a, b => a / b
  | _, a, b => a % b
def sdD : Nat → Nat → Nat → Bool
  | 1, a, b => decide (b ≤ a)
  | 3, a, b => decide (0 < b)
  | _, _, _ => true
def opE : Nat → Int → Int → Nat
  | 0, n, m => n.natAbs
  | 1, n, m => 1 * 10 ^ n.toNat
  | _, n, m => n.natAbs * 10 ^ (m + 9).toNat
def sdE : Nat → Int → Int → Bool
  | 0, n, m => inI n
  | 1, n, m => decide (0 ≤ n ∧ n < 1000000)
  | _, n, m => decide ((-9223372036854775808 < n ∧ n < 9223372036854775808) ∧ -9 ≤ m ∧ m ≤ 1000)
def numF (NR : Bool → Nat → Nat → Int × Int × Int) : NumF where
  D := fun o l k l1 k1 => dg (opD o (nT l k) (nT l1 k1))
  kD := fun o l k l1 k1 => nd (opD o (nT l k) (nT l1 k1))
  okD := fun o l k l1 k1 => isD l k && (isD l1 k1 && sdD o (nT l k) (nT l1 k1))
  T := fun l k n => dg (nT l k * 10 ^ n.toNat)
  kT := fun l k n => nd (nT l k * 10 ^ n.toNat)
  okT := fun l k n => isD l k && decide (-1000000 < n ∧ n < 1000000)
  E := fun o n m => dg (opE o n m)
  kE := fun o n m => nd (opE o n m)
  okE := fun o n m => sdE o n m
  L := fun l k l1 k1 => decide (nT l k < nT l1 k1)
  okL := fun l k l1 k1 => isD l k && isD l1 k1
  A := fun l k n => ((nT l k / 10 ^ n.toNat % 10 : Nat) : Int)
  okA := fun l k n => isD l k && decide (0 ≤ n ∧ n < 1000000)
  V := fun l k => ((nT l k : Nat) : Int)
  okV := fun l k => isD l k && decide (nT l k < 1000000000000000000)
  O := fun m e => qzw m e
  okO := fun m e => decide ((-9223372036854775808 < m ∧ m < 9223372036854775808) ∧ -100 ≤ e ∧ e ≤ 9)
  N := fun b l k l1 k1 => NR b (nT l k) (nT l1 k1)
  okN := fun b l k l1 k1 => isD l k && (isD l1 k1 && decide (k ≤ 90000 ∧ k1 ≤ 90000 ∧ 0 < nT l1 k1))
variable {NR : Bool → Nat → Nat → Int × Int × Int}
theorem gD_ok {f : FuncId} {o : Nat} (h : ∀ a b, nd a ≤ 200000 → nd b ≤ 200000 → sdD o a b = true → Meets Try.prog f [.dsl 0 (nd a), .dsl 1 (nd b)] [FL a, FL b] (.dsl 2 (nd (opD o a b))) [FL a, FL b, FT (opD o a b)]) : EntOK Try.prog f (gD (numF NR) o) := fun args pre => by
  unfold gD; split
  · rename_i k k1 m l m1 l1
    refine ⟨fun hb => ?_, fun _ => trivial⟩
    obtain ⟨h1, h2⟩ := Bool.and_eq_true_iff.1 hb
    obtain ⟨g2, h3⟩ := Bool.and_eq_true_iff.1 h2
    obtain ⟨a, ea, ta, rfl, na⟩ := isD_get h1
    obtain ⟨b, eb, tb, rfl, nb⟩ := isD_get g2
    rw [ea, eb] at h3
    show Meets _ _ _ _ (.dsl 2 (nd (opD o (nT l _) (nT l1 _)))) [_, _, AObj.flat true (ints .i64 (dg (opD o (nT l _) (nT l1 _))))]
    rw [ea, eb]
    exact meets_fitF (m' := m1) (l := l1) (meets_fitF (m' := m) (l := l) (h a b na nb h3) (j := 0) rfl ta) (j := 1) rfl tb
  · rename_i k m l y t
    refine ⟨fun hb => ?_, fun _ => trivial⟩
    obtain ⟨h1, h2⟩ := Bool.and_eq_true_iff.1 hb
    obtain ⟨g2, h3⟩ := Bool.and_eq_true_iff.1 h2
    obtain ⟨a, ea, ta, rfl, na⟩ := isD_get h1
    obtain ⟨b, eb, tb, e1, nb⟩ := isD_get g2
    rw [ea, eb] at h3
    show Meets _ _ _ _ (.dsl 2 (nd (opD o (nT l _) (nT [y] 1)))) [_, _, AObj.flat true (ints .i64 (dg (opD o (nT l _) (nT [y] 1))))]
    rw [ea, eb]
    have := meets_fitF (m' := false) (l := [y]) (meets_fitF (m' := m) (l := l) (h a b na nb h3) (j := 0) rfl ta) (j := 1) rfl tb
    rw [← e1] at this
    exact meets_cell this
  · rename_i k k1 m l
    refine ⟨fun hb => ?_, fun _ => trivial⟩
    obtain ⟨h1, h2⟩ := Bool.and_eq_true_iff.1 hb
    obtain ⟨g2, h3⟩ := Bool.and_eq_true_iff.1 h2
    obtain ⟨a, ea, ta, rfl, na⟩ := isD_get h1
    obtain ⟨b, eb, tb, rfl, nb⟩ := isD_get g2
    rw [ea, eb] at h3
    show Meets _ _ _ _ (.dsl 1 (nd (opD o (nT l _) (nT l _)))) [_, AObj.flat true (ints .i64 (dg (opD o (nT l _) (nT l _))))]
    rw [ea, eb]
    have := meets_twice (meets_fitF (m' := m) (l := l) (meets_fitF (m' := m) (l := l) (h a b na nb h3) (j := 0) rfl ta) (j := 1) rfl tb) (qzu ..)
    simp only [AObj.ren, qzu] at this
    exact this
  · trivial
theorem gBy_ok : EntOK Try.prog 67 (gBy (numF NR)) := fun args pre => by
  unfold gBy; split
  · rename_i k k1 m l m1 l1
    refine ⟨fun hb => ?_, fun _ => trivial⟩
    obtain ⟨h1, h2⟩ := Bool.and_eq_true_iff.1 hb
    obtain ⟨g2, h3⟩ := Bool.and_eq_true_iff.1 h2
    obtain ⟨a, ea, ta, rfl, na⟩ := isD_get h1
    obtain ⟨b, eb, tb, rfl, nb⟩ := isD_get g2
    rw [ea, eb] at h3
    show Meets _ _ _ _ (.tuple [.dsl 2 (nd (nT l _ / nT l1 _)), .dsl 3 (nd (nT l _ % nT l1 _))]) [_, _, AObj.flat true (ints .i64 (dg (nT l _ / nT l1 _))), AObj.flat true (ints .i64 (dg (nT l _ % nT l1 _)))]
    rw [ea, eb]
    exact meets_fitF (m' := m1) (l := l1) (meets_fitF (m' := m) (l := l) (by_meets a b (by omega) (by omega) (of_decide_eq_true h3)) (j := 0) rfl ta) (j := 1) rfl tb
  · trivial
theorem gT_ok : EntOK Try.prog 38 (gT (numF NR)) := fun args pre => by
  unfold gT; split
  · rename_i k n m l
    refine ⟨fun hb => ?_, fun _ => trivial⟩
    obtain ⟨h1, h2⟩ := Bool.and_eq_true_iff.1 hb
    have h2 := of_decide_eq_true h2
    obtain ⟨a, ea, ta, rfl, na⟩ := isD_get h1
    show Meets _ _ _ _ (.dsl 1 (nd (nT l _ * 10 ^ n.toNat))) [_, AObj.flat true (ints .i64 (dg (nT l _ * 10 ^ n.toNat)))]
    rw [ea]
    exact meets_fitF (m' := m) (l := l) (ten_meets a n (by omega) h2) (j := 0) rfl ta
  · rename_i k n l t
    refine ⟨fun hb => ?_, fun _ => trivial⟩
    obtain ⟨h1, h2⟩ := Bool.and_eq_true_iff.1 hb
    have h2 := of_decide_eq_true h2
    obtain ⟨a, ea, ta, rfl, na⟩ := isD_get h1
    show Meets _ _ _ _ (.dsl 1 (nd (nT l _ * 10 ^ n.toNat))) [_, AObj.flat true (ints .i64 (dg (nT l _ * 10 ^ n.toNat)))]
    rw [ea]
    exact meets_args (meets_fitV (l := l) (t := t) (ten_meets a n (by omega) h2) (j := 0) rfl ta) fun E xs hx => by
      obtain ⟨a, zs, ha, hz, rfl⟩ := denL_cons.1 hx
      exact denL_cons.2 ⟨a, zs, den_asD ha, hz, rfl⟩
  · trivial
theorem gL_ok : EntOK Try.prog 40 (gL (numF NR)) := fun args pre => by
  unfold gL; split
  · rename_i k k1 m l m1 l1
    refine ⟨fun hb => ?_, fun _ => trivial⟩
    obtain ⟨h1, g2⟩ := Bool.and_eq_true_iff.1 hb
    obtain ⟨a, ea, ta, rfl, na⟩ := isD_get h1
    obtain ⟨b, eb, tb, rfl, nb⟩ := isD_get g2
    show Meets _ _ _ _ (.bool (decide (nT l _ < nT l1 _))) _
    rw [ea, eb]
    exact meets_fitF (m' := m1) (l := l1) (meets_fitF (m' := m) (l := l) (less_meets a b (by omega) (by omega)) (j := 0) rfl ta) (j := 1) rfl tb
  · trivial
theorem gA_ok : EntOK Try.prog 69 (gA (numF NR)) := fun args pre => by
  unfold gA; split
  · rename_i k n m l
    refine ⟨fun hb => ?_, fun _ => trivial⟩
    obtain ⟨h1, h2⟩ := Bool.and_eq_true_iff.1 hb
    have h2 := of_decide_eq_true h2
    obtain ⟨a, ea, ta, rfl, na⟩ := isD_get h1
    show Meets _ _ _ _ (.int .i64 ((nT l _ / 10 ^ n.toNat % 10 : Nat) : Int)) _
    rw [ea]
    have := at_meets a n.toNat (by omega) (by omega)
    rw [Int.toNat_of_nonneg h2.1] at this
    exact meets_fitF (m' := m) (l := l) this (j := 0) rfl ta
  · trivial
theorem gV_ok : EntOK Try.prog 71 (gV (numF NR)) := fun args pre => by
  unfold gV; split
  · rename_i k m l
    refine ⟨fun hb => ?_, fun _ => trivial⟩
    obtain ⟨h1, h2⟩ := Bool.and_eq_true_iff.1 hb
    have h2 := of_decide_eq_true h2
    obtain ⟨a, ea, ta, rfl, na⟩ := isD_get h1
    rw [ea] at h2
    show Meets _ _ _ _ (.int .i64 ((nT l _ : Nat) : Int)) _
    rw [ea]
    exact meets_fitF (m' := m) (l := l) (value_meets a (by omega) h2) (j := 0) rfl ta
  · trivial
theorem gO_ok : EntOK Try.prog 70 (gO (numF NR)) := fun args pre => by
  unfold gO; split
  · rename_i n m
    refine ⟨fun hb => ?_, fun _ => trivial⟩
    have hb := of_decide_eq_true hb
    exact lowest_meets n m hb.1 hb.2
  · trivial
theorem g42_ok : EntOK Try.prog 42 (gE (numF NR) 0) := fun args pre => by
  unfold gE; split
  · rename_i n
    refine ⟨fun hb => ?_, fun _ => trivial⟩
    have hb := inI_iff.1 hb
    exact digits_meets n hb (by have := nd_small (n := n.natAbs) (by omega); omega)
  · trivial
theorem okD_dg {o a b : Nat} (ha : nd a ≤ 200000) (hb : nd b ≤ 200000) (hs : sdD o a b = true) : (numF NR).okD o (dg a) (nd a) (dg b) (nd b) = true := by
  show (isD _ _ && (isD _ _ && sdD o (nT _ _) (nT _ _))) = true
  rw [isD_dg ha, isD_dg hb, nT_dg, nT_dg, hs]; rfl
theorem D_dg {o a b : Nat} : (numF NR).D o (dg a) (nd a) (dg b) (nd b) = dg (opD o a b) := by
  show dg (opD o (nT _ _) (nT _ _)) = _
  rw [nT_dg, nT_dg]
theorem kD_dg {o a b : Nat} : (numF NR).kD o (dg a) (nd a) (dg b) (nd b) = nd (opD o a b) := by
  show nd (opD o (nT _ _) (nT _ _)) = _
  rw [nT_dg, nT_dg]
theorem okD1 {a : Nat} (ha : nd a ≤ 200000) : (numF NR).okD 0 (dg a) (nd a) [1] 1 = true := by
  have := okD_dg (NR := NR) (o := 0) (b := 1) ha (by rw [nd_one]; omega) rfl
  rw [dg_one, nd_one] at this; exact this
theorem D1 {a : Nat} : (numF NR).D 0 (dg a) (nd a) [1] 1 = dg (a + 1) := by
  have := D_dg (NR := NR) (o := 0) (a := a) (b := 1)
  rw [dg_one, nd_one] at this; exact this
theorem kD1 {a : Nat} : (numF NR).kD 0 (dg a) (nd a) [1] 1 = nd (a + 1) := by
  have := kD_dg (NR := NR) (o := 0) (a := a) (b := 1)
  rw [dg_one, nd_one] at this; exact this
theorem okT_dg {a : Nat} {n : Int} (ha : nd a ≤ 200000) (hn : -1000000 < n ∧ n < 1000000) : (numF NR).okT (dg a) (nd a) n = true := by
  show (isD _ _ && decide _) = true
  rw [isD_dg ha, decide_eq_true hn]; rfl
theorem T_dg {a : Nat} {n : Int} : (numF NR).T (dg a) (nd a) n = dg (a * 10 ^ n.toNat) := by
  show dg (nT _ _ * _) = _
  rw [nT_dg]
theorem kT_dg {a : Nat} {n : Int} : (numF NR).kT (dg a) (nd a) n = nd (a * 10 ^ n.toNat) := by
  show nd (nT _ _ * _) = _
  rw [nT_dg]
theorem okL_dg {a b : Nat} (ha : nd a ≤ 200000) (hb : nd b ≤ 200000) : (numF NR).okL (dg a) (nd a) (dg b) (nd b) = true := by
  show (isD _ _ && isD _ _) = true
  rw [isD_dg ha, isD_dg hb]; rfl
theorem L_dg {a b : Nat} : (numF NR).L (dg a) (nd a) (dg b) (nd b) = decide (a < b) := by
  show decide (nT _ _ < nT _ _) = _
  rw [nT_dg, nT_dg]
theorem okA_dg {a : Nat} {n : Int} (ha : nd a ≤ 200000) (hn : 0 ≤ n ∧ n < 1000000) : (numF NR).okA (dg a) (nd a) n = true := by
  show (isD _ _ && decide _) = true
  rw [isD_dg ha, decide_eq_true hn]; rfl
theorem A_dg {a : Nat} {n : Int} : (numF NR).A (dg a) (nd a) n = ((a / 10 ^ n.toNat % 10 : Nat) : Int) := by
  show ((nT _ _ / _ % 10 : Nat) : Int) = _
  rw [nT_dg]
theorem okV_dg {a : Nat} (ha : nd a ≤ 200000) (h : a < 1000000000000000000) : (numF NR).okV (dg a) (nd a) = true := by
  show (isD _ _ && decide (nT _ _ < _)) = true
  rw [isD_dg ha, nT_dg, decide_eq_true h]; rfl
theorem V_dg {a : Nat} : (numF NR).V (dg a) (nd a) = (a : Int) := by
  show ((nT _ _ : Nat) : Int) = _
  rw [nT_dg]
theorem okN_dg {b : Bool} {a c : Nat} (ha : nd a ≤ 90000) (hc : nd c ≤ 90000) (h : 0 < c) : (numF NR).okN b (dg a) (nd a) (dg c) (nd c) = true := by
  show (isD _ _ && (isD _ _ && decide (_ ∧ _ ∧ 0 < nT _ _))) = true
  rw [isD_dg (by omega), isD_dg (by omega), nT_dg, decide_eq_true ⟨ha, hc, h⟩]; rfl
theorem N_dg {b : Bool} {a c : Nat} : (numF NR).N b (dg a) (nd a) (dg c) (nd c) = NR b a c := by
  show NR b (nT _ _) (nT _ _) = _
  rw [nT_dg, nT_dg]
theorem okE0 {n : Int} (h : inI n = true) : (numF NR).okE 0 n 0 = true := h
theorem E0 {n : Int} : (numF NR).E 0 n 0 = dg n.natAbs := rfl
theorem kE0 {n : Int} : (numF NR).kE 0 n 0 = nd n.natAbs := rfl
theorem okO_of {m e : Int} (h : (-9223372036854775808 < m ∧ m < 9223372036854775808) ∧ -100 ≤ e ∧ e ≤ 9) : (numF NR).okO m e = true := decide_eq_true h
theorem O_eq {m e : Int} : (numF NR).O m e = qzw m e := rfl
end Go.Proofs.Ytmgiefeggkikcaa
namespace Go.Proofs.Ytmgiefeggkikcaa
open Go Sx Rf Dc Rr
def ck2 {α : Type} (b : Bool) (y : Option α) : Option α := bcond b y none
def finQ (x : NumF) (b : Bool) (l l1 : List Int) (k k1 : Nat) (e : Int) (u : List Int) (ku : Nat) : OX :=
  ck2 (x.okE 0 999999999999999 0) (ck2 (x.okL (x.E 0 999999999999999 0) (x.kE 0 999999999999999 0) u ku) (bcond (x.L (x.E 0 999999999999999 0) (x.kE 0 999999999999999 0) u ku) (some (.normal, nrS b l l1 k k1 (wrN (e + 1))))
    (ck2 (x.okV u ku) (ck2 (x.okO (x.V u ku) e) (bcond b (some (.ret, nrF l l1 (wrN (0 - (x.O (x.V u ku) e).1), (x.O (x.V u ku) e).2))) (some (.ret, nrF l l1 ((x.O (x.V u ku) e).1, (x.O (x.V u ku) e).2))))))))
def upQ (x : NumF) (b : Bool) (l l1 : List Int) (k k1 : Nat) (e : Int) (q : List Int) (kq : Nat) : OX := ck2 (x.okD 0 q kq [1] 1) (finQ x b l l1 k k1 e (x.D 0 q kq [1] 1) (x.kD 0 q kq [1] 1))
def rndQ (x : NumF) (b : Bool) (l l1 : List Int) (k k1 : Nat) (e : Int) (d : List Int) (kd : Nat) (q : List Int) (kq : Nat) (t : List Int) (kt : Nat) : OX :=
  ck2 (x.okL d kd t kt) (bcond (x.L d kd t kt) (upQ x b l l1 k k1 e q kq) (ck2 (x.okL t kt d kd) (bcond (!(x.L t kt d kd)) (ck2 (x.okA q kq 0) (bcond ((x.A q kq 0).tmod 2 == 1) (upQ x b l l1 k k1 e q kq) (finQ x b l l1 k k1 e q kq))) (finQ x b l l1 k k1 e q kq))))
def divQ (x : NumF) (b : Bool) (l l1 : List Int) (k k1 : Nat) (e : Int) (n : List Int) (kn : Nat) (d : List Int) (kd : Nat) : OX :=
  ck2 (x.okD 3 n kn d kd) (ck2 (x.okD 0 (x.D 4 n kn d kd) (x.kD 4 n kn d kd) (x.D 4 n kn d kd) (x.kD 4 n kn d kd)) (rndQ x b l l1 k k1 e d kd (x.D 3 n kn d kd) (x.kD 3 n kn d kd)
    (x.D 0 (x.D 4 n kn d kd) (x.kD 4 n kn d kd) (x.D 4 n kn d kd) (x.kD 4 n kn d kd)) (x.kD 0 (x.D 4 n kn d kd) (x.kD 4 n kn d kd) (x.D 4 n kn d kd) (x.kD 4 n kn d kd))))
theorem roundN (x : NumF) (b : Bool) (l l1 : List Int) (k k1 : Nat) (e : Int) : code (ent (R := Ex × PState) Try.prog (tabNr x) nolv 64 18446744073709551616 30) Try.prog {} 2 64 18446744073709551616 (loopIn (qzx Try.f36)) (nrS b l l1 k k1 e) (endK 2 64 kN kNx) =
    bcond (decide (e ≤ 9)) (ck2 (x.okT l1 k1 e) (ck2 (x.okT l k (wrN (0 - e))) (divQ x b l l1 k k1 e (x.T l k (wrN (0 - e))) (x.kT l k (wrN (0 - e))) (x.T l1 k1 e) (x.kT l1 k1 e)))) (some (.exit 0, nrF l l1 (0, 0))) := by kernel_rfl
theorem startN (b : Bool) (l l1 : List Int) (k k1 : Nat) : runsC (noH (R := Ex × PState)) Try.prog {} 2 64 18446744073709551616 (endK 2 64 kN kN) 1 (qzx Try.f36) (startP 65 [.bool b, .dsl 0 k, .dsl 1 k1] [.flatI false l, .flatI false l1] 64) = some (.normal, nrS0 b l l1 k k1) := by kernel_rfl
theorem headN (b : Bool) (l l1 : List Int) (k k1 : Nat) : code (noH (R := Ex × PState)) Try.prog {} 2 64 18446744073709551616 (headC (stmtN 1 (qzx Try.f36))) (nrS0 b l l1 k k1) (endK 2 64 kN kN) = some (.normal, nrS b l l1 k k1 (-9)) := by kernel_rfl
theorem shapeN : restC 1 (qzx Try.f36) = .seq (.seq (headC (stmtN 1 (qzx Try.f36))) (.block 0 (.loop (loopIn (qzx Try.f36))))) (restC 2 (qzx Try.f36)) := by kernel_rfl
theorem lostN (l l1 : List Int) : code (noH (R := AV × List PObj)) Try.prog {} 2 64 18446744073709551616 (restC 2 (qzx Try.f36)) (nrF l l1 (0, 0)) (finP Try.prog Try.f36 2 [.flatI false l, .flatI false l1] pure2) = pure2 (R3 (0, 0, 10)) [.flatI false l, .flatI false l1] := by kernel_rfl
theorem foundN (l l1 : List Int) (t : Int × Int) : finP (R := AV × List PObj) Try.prog Try.f36 2 [.flatI false l, .flatI false l1] pure2 .ret (nrF l l1 t) = pure2 (R3 (t.1, t.2, 0)) [.flatI false l, .flatI false l1] := by kernel_rfl
end Go.Proofs.Ytmgiefeggkikcaa
