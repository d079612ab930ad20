import Derived.Test.YtmgiefeggkikcaaGr03
import Derived.Test.YtmgiefeggkikcaaRows
import Derived.Test.YtmgiefeggkikcaaGr05
set_option linter.unusedVariables false
set_option linter.unusedSimpArgs false
set_option maxRecDepth 20000
namespace Go.Proofs.Ytmgiefeggkikcaa
open Go Sx Dc
theorem cmpI_val : ∀ (xs ys : List Int), Dig xs → Dig ys → xs.length = ys.length → cmpI xs ys = if val xs < val ys then -1 else if val ys < val xs then 1 else 0
  | [], [], _, _, _ => by simp [cmpI, val]
  | [], _ :: _, _, _, h => by simp at h
  | _ :: _, [], _, _, h => by simp at h
  | x :: xs, y :: ys, hx, hy, hl => by
    obtain ⟨hx1, hx2⟩ := hx.cons
    obtain ⟨hy1, hy2⟩ := hy.cons
    have hl' : xs.length = ys.length := by simpa using hl
    have ih := cmpI_val xs ys hx2 hy2 hl'
    have bx := val_bounds xs hx2
    have b := val_bounds ys hy2
    rw [← hl'] at b
    rw [cmpI, ih, val_cons, val_cons, ← hl']
    have hp := pow_pos' xs.length
    generalize (10 : Int) ^ xs.length = p at *
    by_cases h1 : x < y
    · have : (x + 1) * p ≤ y * p := Int.mul_le_mul_of_nonneg_right (by omega) (by omega)
      rw [Int.add_mul] at this
      rw [if_pos h1, if_pos (by omega)]
    · by_cases h2 : y < x
      · have : (y + 1) * p ≤ x * p := Int.mul_le_mul_of_nonneg_right (by omega) (by omega)
        rw [Int.add_mul] at this
        rw [if_neg h1, if_pos h2, if_neg (by omega), if_pos (by omega)]
      · have : x = y := by omega
        subst this
        rw [if_neg h1, if_neg h2]
        split <;> split <;> first | rfl | omega | (split <;> first | rfl | omega)
theorem Dig.u8 {l : List Int} (h : Dig l) : ∀ x ∈ l, 0 ≤ x ∧ x < 256 := fun x hx => by have := h x hx; omega
def lay_inv (m e r : Int) (p : Nat) (ds : List Int) : AState :=
  ⟨([none, none, sP 1 0, sP 2 0, sI r, sI (87 - (p : Int))] ++ nn 23), [some (jC [jI m, jI e] 23), some (jC ((jB false) :: (ints .u8 (List.replicate 88 0))) 50), some (jC ((jB (decide (m < 0))) :: (ints .u8 ds)) 50)]⟩
theorem lay_round (m e r : Int) (p : Nat) (ds : List Int) (hlen : ds.length = 88) (h1 : 0 < r) (h2 : r < 9223372036854775808) (h3 : p < 88) : Tri Try.prog (loopN (qzx Try.f33) 0) (lay_inv m e r p ds) .normal (lay_inv m e (r / 10) (p + 1) (ds.set (87 - (p : Int)).toNat (r % 10))) := by
  exact qxz [rG [hhB 1 true], rG [hhI 2 (r % 10), hhV 3 (jU (r % 10)), hhV 5 (jP 2 (((87 - (p : Int))).toNat + 1)), (6, {obj := some [jC ((jB (decide (m < 0))) :: (ints .u8 (ds.set (((87 - (p : Int))).toNat) (r % 10)))) 50]})], rG [hhI 1 (r / 10)], rG [hhI 1 ((87 - (p : Int)) - 1)]]
    (oA (oS (bT h1)) <| oA (oS (show (10 : Int) ≠ 0 from by decide)) <| oA (oS (show AV.int .i64 (r.tmod 10) = jI (r % 10) from remI (by omega))) <| oA (oS (show AV.int .u8 (IntKind.u8.wrap (r % 10)) = jU (r % 10) from w_u8 (by omega))) <| oA (oS (show 0 ≤ (87 - (p : Int)) from by omega)) <| oA (oS (show (87 - (p : Int)) < ((88 : Nat) : Int) from by omega)) <| oA (oS (show AV.ptr 2 (1 + Int.toNat (87 - (p : Int)) * 1) = jP 2 (((87 - (p : Int))).toNat + 1) from ptrE (by omega))) <| oA (oS (show ([jU (r % 10)] : List AV).length = 1 from rfl)) <| oA (oS (show (((87 - (p : Int))).toNat + 1) + 1 ≤ List.length ((jB (decide (m < 0))) :: (ints .u8 ds)) from lnO)) <| oA (oS (show AObj.cells (List.take (((87 - (p : Int))).toNat + 1) ((jB (decide (m < 0))) :: (ints .u8 ds)) ++ [jU (r % 10)] ++ List.drop ((((87 - (p : Int))).toNat + 1) + 1) ((jB (decide (m < 0))) :: (ints .u8 ds))) 50 = jC ((jB (decide (m < 0))) :: (ints .u8 (ds.set (((87 - (p : Int))).toNat) (r % 10)))) 50 from store_ints [jB (decide (m < 0))] (by omega))) <| oA (oS (show (10 : Int) ≠ 0 from by decide)) <| oA (oS (show AV.int .i64 (IntKind.i64.wrap (r.tdiv 10)) = jI (r / 10) from quoI (by omega))) <| oWs ((87 - (p : Int)) - 1) (by omega))
    (oA (oR [jP 1 0, jP 2 0, jI (r / 10)]) <| oA (oS (show jI ((87 - (p : Int)) - 1) = jI (87 - ((p + 1 : Nat) : Int)) from intE (by omega))) <| oQ [jC [jI m, jI e] 23, jC ((jB false) :: (ints .u8 (List.replicate 88 0))) 50, jC ((jB (decide (m < 0))) :: (ints .u8 (ds.set (((87 - (p : Int))).toNat) (r % 10)))) 50]) (by kernel_rfl)
def lay_out (m e : Int) (ds : List Int) : AState :=
  ⟨([none, none, sP 1 0, sP 2 0] ++ nn 25), [some (jC [jI m, jI e] 23), some (jC ((jB false) :: (ints .u8 (List.replicate 88 0))) 50), some (jC ((jB (decide (m < 0))) :: (ints .u8 ds)) 50)]⟩
theorem lay_last (m e r : Int) (p : Nat) (ds : List Int) (hlen : ds.length = 88) (h1 : ¬ 0 < r) : Tri Try.prog (loopN (qzx Try.f33) 0) (lay_inv m e r p ds) (.exit 0) (lay_out m e ds) := by
  exact qxz [rG [hhB 1 false]]
    (oS (bF h1))
    (oA (oR [jP 1 0, jP 2 0]) <| oQ [jC [jI m, jI e] 23, jC ((jB false) :: (ints .u8 (List.replicate 88 0))) 50, jC ((jB (decide (m < 0))) :: (ints .u8 ds)) 50]) (by kernel_rfl)
theorem lay_loop (m e N : Int) (r0 : Int) (p0 : Nat) (hr0 : 0 ≤ r0 ∧ r0 < 9223372036854775808) (hp0 : p0 ≤ 88) (hN : r0 * 10 ^ p0 = N) (hb : N < 10 ^ 80) :
    Tri Try.prog (.loop (loopN (qzx Try.f33) 0)) (lay_inv m e r0 p0 (digs 88 0)) (.exit 0) (lay_out m e (digs 88 N)) := by
  refine tri_loop (ι := {q : Int × Nat × Int // 0 ≤ q.1 ∧ q.1 < 9223372036854775808 ∧ 0 ≤ q.2.2 ∧ q.2.2 < 10 ^ q.2.1 ∧ q.1 * 10 ^ q.2.1 + q.2.2 = N}) (fun i => lay_inv m e i.1.1 i.1.2.1 (digs 88 i.1.2.2)) (fun i => i.1.1.toNat) (ne_normal_exit 0) ?_ ⟨(r0, p0, 0), hr0.1, hr0.2, Int.le_refl 0, pow_pos' p0, by simp only; omega⟩
  rintro ⟨⟨r, p, v⟩, h1, h2, h3, h4, h5⟩
  simp only at h1 h2 h3 h4 h5
  by_cases hr : 0 < r
  · have hp : p < 88 := by
      rcases Nat.lt_or_ge p 88 with h | h
      · exact h
      · exfalso
        have a1 : (10 : Int) ^ 88 ≤ 10 ^ p := pow_mono h
        have a2 : 1 * (10 : Int) ^ p ≤ r * 10 ^ p := Int.mul_le_mul_of_nonneg_right (by omega) (by have := pow_pos' p; omega)
        have a3 : (10 : Int) ^ 80 ≤ 10 ^ 88 := by decide
        omega
    have e1 : digs 88 (r % 10 * 10 ^ p + v) = (digs 88 v).set (87 - (p : Int)).toNat (r % 10) := by
      rw [show (87 - (p : Int)).toNat = 88 - 1 - p by omega, digs_set hp h3 h4 (by omega)]
    refine .inl ⟨⟨(r / 10, p + 1, r % 10 * 10 ^ p + v), by simp only; omega, by simp only; omega, ?_, ?_, ?_⟩, by simp only; omega, by simp only [e1]; exact lay_round m e r p _ (qyz _ _) hr h2 hp⟩
    · simp only
      have : 0 ≤ r % 10 * 10 ^ p := Int.mul_nonneg (by omega) (by have := pow_pos' p; omega)
      omega
    · simp only
      have : r % 10 * 10 ^ p ≤ 9 * 10 ^ p := Int.mul_le_mul_of_nonneg_right (by omega) (by have := pow_pos' p; omega)
      rw [Int.pow_succ]; omega
    · simp only
      rw [Int.pow_succ, ← h5, ← Int.add_assoc]
      congr 1
      rw [Int.mul_comm (10 ^ p) 10, ← Int.mul_assoc, ← Int.add_mul]
      congr 1; omega
  · have hr0 : r = 0 := by omega
    subst hr0
    have hv : v = N := by simpa using h5
    subst hv
    exact .inr (lay_last m e 0 p _ (qyz _ _) (by omega))
theorem lay_meets (m e : Int) (ds : List Int) (hm : -1000000000000000 < m ∧ m < 1000000000000000) (he : -18 ≤ e ∧ e ≤ 18) (hds : digs 88 ((m.natAbs : Int) * 10 ^ (e + 40).toNat) = ds) : Meets Try.prog 33 [jA [jI m, jI e]] [] (jA ((jB (decide (m < 0))) :: (ints .u8 ds))) [] := by
  have hb : (m.natAbs : Int) * 10 ^ (e + 40).toNat < 10 ^ 80 := by
    have a1 : (10 : Int) ^ (e + 40).toNat ≤ 10 ^ 58 := pow_mono (by omega)
    have a2 : (m.natAbs : Int) * 10 ^ (e + 40).toNat ≤ 10 ^ 15 * 10 ^ 58 := Int.mul_le_mul (by omega) a1 (by have := pow_pos' (e + 40).toNat; omega) (by decide)
    have a3 : (10 : Int) ^ 15 * 10 ^ 58 < 10 ^ 80 := by decide
    omega
  have hlen : ds.length = 88 := by rw [← hds, qyz]
  have hl := lay_loop m e _ (m.natAbs : Int) (e + 40).toNat ⟨by omega, by omega⟩ (by omega) rfl hb
  rw [hds, ← zeros_digs] at hl
  exact qzy (fn := Try.f33) 3 [rG [hhN 0 0, (1, {nm := [1], obj := some [jC ((jB false) :: (ints .u8 (List.replicate 88 0))) 50]})], rG [hhI 1 m, hhV 3 (jA ((jB (decide (m < 0))) :: (ints .u8 (List.replicate 88 0)))), (4, {nm := [2], obj := some [jC ((jB false) :: (ints .u8 (List.replicate 88 0))) 50]}), (5, {obj := some [jC ((jB (decide (m < 0))) :: (ints .u8 (List.replicate 88 0))) 50]})], rG [hhI 1 m, hhM 2 (size_meets m (by omega))], rG [hhI 1 e, hhI 2 (47 - e)], .loop (⟨([none, none, sP 1 0, sP 2 0, sI ((m.natAbs : Nat) : Int), sI (87 - (((e + 40).toNat : Nat) : Int))] ++ nn 23), [some (jC [jI m, jI e] 23), some (jC ((jB false) :: (ints .u8 (List.replicate 88 0))) 50), some (jC ((jB (decide (m < 0))) :: (ints .u8 (List.replicate 88 0))) 50)]⟩) (.exit 0) (⟨([none, none, sP 1 0, sP 2 0] ++ nn 25), [some (jC [jI m, jI e] 23), some (jC ((jB false) :: (ints .u8 (List.replicate 88 0))) 50), some (jC ((jB (decide (m < 0))) :: (ints .u8 ds)) 50)]⟩), rG [hhV 0 (jA ((jB (decide (m < 0))) :: (ints .u8 ds))), (1, {obj := some [jC ((jB (decide (m < 0))) :: (ints .u8 ds)) 50]})]] [{val := some (jA ((jB (decide (m < 0))) :: (ints .u8 ds)))}] Try.func33 (by kernel_rfl) Try.call33
    (oA (oS (show AObj.cells (zeroCellsA Try.prog 50) 50 = jC ((jB false) :: (ints .u8 (List.replicate 88 0))) 50 from by kernel_rfl)) <| oA (oLf ([jI m, jI e]) (0) (jI m) (rfl)) <| oA (oS (show ([jB (decide (m < 0))] : List AV).length = 1 from rfl)) <| oA (oS (show 0 + 1 ≤ ((zeroCellsA Try.prog 50) : List AV).length from Nat.le_of_ble_eq_true (by kernel_rfl))) <| oA (oS (show AV.agg (List.take 0 (zeroCellsA Try.prog 50) ++ [jB (decide (m < 0))] ++ List.drop 1 (zeroCellsA Try.prog 50)) = jA ((jB (decide (m < 0))) :: (ints .u8 (List.replicate 88 0))) from by kernel_rfl)) <| oA (oS (show AObj.cells (zeroCellsA Try.prog 50) 50 = jC ((jB false) :: (ints .u8 (List.replicate 88 0))) 50 from by kernel_rfl)) <| oA (oSw (n := 89) ((jB (decide (m < 0))) :: (ints .u8 (List.replicate 88 0))) ((jB false) :: (ints .u8 (List.replicate 88 0))) 50 lnO lnO) <| oA (oLf ([jI m, jI e]) (0) (jI m) (rfl)) <| oA (oC (size_meets m (by omega)) rfl) <| oA (oLf ([jI m, jI e]) (1) (jI e) (rfl)) <| oA (oWs (47 - e) (by omega)) <| oA (oR [jP 1 0, jP 2 0, jI ((m.natAbs : Nat) : Int)]) <| oA (oS (show jI (47 - e) = jI (87 - (((e + 40).toNat : Nat) : Int)) from intE (by omega))) <| oA (oQ [jC [jI m, jI e] 23, jC ((jB false) :: (ints .u8 (List.replicate 88 0))) 50, jC ((jB (decide (m < 0))) :: (ints .u8 (List.replicate 88 0))) 50]) <| oA (oS (show Tri Try.prog (.loop (loopN (qzx Try.f33) 0)) (⟨([none, none, sP 1 0, sP 2 0, sI ((m.natAbs : Nat) : Int), sI (87 - (((e + 40).toNat : Nat) : Int))] ++ nn 23), [some (jC [jI m, jI e] 23), some (jC ((jB false) :: (ints .u8 (List.replicate 88 0))) 50), some (jC ((jB (decide (m < 0))) :: (ints .u8 (List.replicate 88 0))) 50)]⟩) (.exit 0) (⟨([none, none, sP 1 0, sP 2 0] ++ nn 25), [some (jC [jI m, jI e] 23), some (jC ((jB false) :: (ints .u8 (List.replicate 88 0))) 50), some (jC ((jB (decide (m < 0))) :: (ints .u8 ds)) 50)]⟩) from hl)) <| oA (oLw (n := 89) ((jB (decide (m < 0))) :: (ints .u8 ds)) lnO) <| oSw (n := 89) ((jB (decide (m < 0))) :: (ints .u8 ds)) ((jB false) :: (ints .u8 (List.replicate 88 0))) 50 lnO lnO)
    (oA (oLw (n := 89) ((jB (decide (m < 0))) :: (ints .u8 ds)) lnO) <| oA (oS (@rfl _ (jA ((jB (decide (m < 0))) :: (ints .u8 ds))))) <| oS (show Avoid (fun n => decide (0 ≤ n)) (jA ((jB (decide (m < 0))) :: (ints .u8 ds))) from Avoid.agg (AvoidL.cons (Avoid.bool _ _) (AvoidL.ints _ _ _)))) (by kernel_rfl)
def maxL (l : List Int) : Int := l.foldl max (l.getD 0 0)
def maxU (l : List Int) : Nat → Int
  | 0 => l.getD 0 0
  | n + 1 => max (maxU l n) (l.getD n 0)
theorem maxU_zero {l : List Int} (h : ∀ x ∈ l, 0 ≤ x) : ∀ n, n ≤ l.length → 0 < l.length → 0 ≤ maxU l n ∧ (maxU l n = 0 → ∀ i, i < n → l.getD i 0 = 0) ∧ ((∀ i, i < l.length → l.getD i 0 = 0) → maxU l n = 0)
  | 0, _, h0 => by
    have e : l.getD 0 0 = l[0] := by simp [List.getD, h0]
    exact ⟨by rw [maxU, e]; exact h _ (List.getElem_mem h0), fun _ i hi => by omega, fun a => a 0 h0⟩
  | n + 1, hn, h0 => by
    obtain ⟨h1, h2, h3⟩ := maxU_zero h n (by omega) h0
    have e : l.getD n 0 = l[n] := by simp [List.getD, (by omega : n < l.length)]
    have hp : 0 ≤ l.getD n 0 := by rw [e]; exact h _ (List.getElem_mem (by omega))
    refine ⟨by rw [maxU]; omega, fun g i hi => ?_, fun a => ?_⟩
    · rw [maxU] at g
      by_cases hi' : i = n
      · subst hi'; omega
      · exact h2 (by omega) i (by omega)
    · rw [maxU, h3 a, a n (by omega)]; rfl
theorem maxU_val {l : List Int} (h : Dig l) (h0 : 0 < l.length) : maxU l l.length = 0 ↔ val l = 0 := by
  obtain ⟨_, h2, h3⟩ := maxU_zero (fun x hx => (h x hx).1) l.length (Nat.le_refl _) h0
  rw [val_zero_iff h]
  constructor
  · intro g d hd
    obtain ⟨i, hi, rfl⟩ := List.getElem_of_mem hd
    have := h2 g i hi
    simpa [List.getD, hi] using this
  · intro g
    refine h3 fun i hi => ?_
    have := g l[i] (List.getElem_mem hi)
    simpa [List.getD, hi] using this
theorem max_round (l : List Int) (o c n : Nat) (h : n < l.length) (hl : l.length < 9223372036854775808) : Tri Try.prog (loopN (qzx Try.f77) 0) (⟨([some (AV.slice 0 o l.length c), none, none, some (jU (maxU l n)), sI ((n : Nat) : Int)] ++ nn 20), [some (AObj.ro o (ints .u8 l))]⟩) .normal (⟨([some (AV.slice 0 o l.length c), none, none, some (jU (maxU l (n + 1))), sI ((n + 1 : Nat) : Int)] ++ nn 20), [some (AObj.ro o (ints .u8 l))]⟩) 1 := by
  exact qxz [rG [hhB 3 true], rG [hhV 3 (jP 0 (o + n)), hhV 4 (jU (l.getD n 0)), hhV 5 (jU (max (maxU l n) (l.getD n 0)))], rG [hhI 1 ((n + 1 : Nat) : Int)]]
    (oA (oS (show AV.bool (decide (((n : Nat) : Int) < ((l.length : Nat) : Int))) = jB true from bT (by omega))) <| oA (oS (show 0 ≤ ((n : Nat) : Int) from by omega)) <| oA (oS (show ((n : Nat) : Int) < ((l.length : Nat) : Int) from by omega)) <| oA (oS (show AV.ptr 0 (o + Int.toNat ((n : Nat) : Int) * 1) = jP 0 (o + n) from ptrE (by omega))) <| oA (oS (show o ≤ (o + n) from by omega)) <| oA (oS (show (ints .u8 l : List AV)[(o + n) - o]? = some (jU (l.getD n 0)) from ints_at [] (by simp only [List.length_nil, List.length_cons] <;> omega) (by omega))) <| oA (oS (show AV.int .u8 (if (l.getD n 0) > maxU l n then (l.getD n 0) else maxU l n) = jU (max (maxU l n) (l.getD n 0)) from maxI)) <| oW (((n : Nat) : Int) + 1) ((n + 1 : Nat) : Int) (by omega))
    (oA (oR [AV.slice 0 o l.length c]) <| oA (oS (show jU (max (maxU l n) (l.getD n 0)) = jU (maxU l (n + 1)) from by rw [maxU])) <| oA (oR [jI ((n + 1 : Nat) : Int)]) <| oQ [AObj.ro o (ints .u8 l)]) (by kernel_rfl)
def max_inv (l : List Int) (o c n : Nat) : AState :=
  ⟨([some (AV.slice 0 o l.length c), none, none, some (jU (maxU l n)), sI ((n : Nat) : Int)] ++ nn 20), [some (AObj.ro o (ints .u8 l))]⟩
def max_out (l : List Int) (o c : Nat) : AState :=
  ⟨([none, none, none, some (jU (maxU l l.length))] ++ nn 21), [some (AObj.ro o (ints .u8 l))]⟩
theorem max_last (l : List Int) (o c : Nat) (hl : l.length < 9223372036854775808) : Tri Try.prog (loopN (qzx Try.f77) 0) (⟨([some (AV.slice 0 o l.length c), none, none, some (jU (maxU l l.length)), sI ((l.length : Nat) : Int)] ++ nn 20), [some (AObj.ro o (ints .u8 l))]⟩) (.exit 0) (⟨([none, none, none, some (jU (maxU l l.length))] ++ nn 21), [some (AObj.ro o (ints .u8 l))]⟩) 1 := by
  exact qxz [rG [hhB 3 false]]
    (oS (show AV.bool (decide (((l.length : Nat) : Int) < ((l.length : Nat) : Int))) = jB false from bF (by omega)))
    (oA (oR [jU (maxU l l.length)]) <| oQ [AObj.ro o (ints .u8 l)]) (by kernel_rfl)
theorem max_loop (l : List Int) (o c : Nat) (h0 : 1 ≤ l.length) (hl : l.length < 9223372036854775808) : Tri Try.prog (.loop (loopN (qzx Try.f77) 0)) (max_inv l o c 1) (.exit 0) (max_out l o c) 1 :=
  tri_up (max_inv l o c) (ne_normal_exit 0) l.length (fun k hk => max_round l o c k hk hl) (max_last l o c hl) 1 h0
theorem max_meets (l : List Int) (o c : Nat) (h0 : 1 ≤ l.length) (hl : l.length < 9223372036854775808) : Meets Try.prog 77 [AV.slice 0 o l.length c] [AObj.ro o (ints .u8 l)] (jU (maxU l l.length)) [AObj.ro o (ints .u8 l)] := by
  exact qzy (fn := Try.f77) 0 [rG [], rG [hhB 2 false], rG [hhV 1 (jP 0 o), hhV 2 (jU (l.getD 0 0))], rG [], .loop (⟨([some (AV.slice 0 o l.length c), none, none, some (jU (maxU l 1)), sI ((1 : Nat) : Int)] ++ nn 20), [some (AObj.ro o (ints .u8 l))]⟩) (.exit 0) (⟨([none, none, none, some (jU (maxU l l.length))] ++ nn 21), [some (AObj.ro o (ints .u8 l))]⟩), rG []] [{}] Try.func77 (by kernel_rfl) Try.call77
    (oA (oS (show AV.bool (decide (((l.length : Nat) : Int) < 1)) = jB false from bF (by omega))) <| oA (oS (show 0 ≤ (0 : Int) from by decide)) <| oA (oS (show (0 : Int) < ((l.length : Nat) : Int) from by omega)) <| oA (oS (show AV.ptr 0 (o + Int.toNat (0 : Int) * 1) = jP 0 o from ptrE (by omega))) <| oA (oS (show o ≤ o from by omega)) <| oA (oS (show (ints .u8 l : List AV)[o - o]? = some (jU (l.getD 0 0)) from ints_at [] (by simp only [List.length_nil, List.length_cons] <;> omega) (by omega))) <| oA (oR [AV.slice 0 o l.length c]) <| oA (oS (show jU (l.getD 0 0) = jU (maxU l 1) from intE (by simp only [maxU]; omega))) <| oA (oR [jI 1]) <| oA (oQ [AObj.ro o (ints .u8 l)]) <| oS (show Tri Try.prog (.loop (loopN (qzx Try.f77) 0)) (⟨([some (AV.slice 0 o l.length c), none, none, some (jU (maxU l 1)), sI ((1 : Nat) : Int)] ++ nn 20), [some (AObj.ro o (ints .u8 l))]⟩) (.exit 0) (⟨([none, none, none, some (jU (maxU l l.length))] ++ nn 21), [some (AObj.ro o (ints .u8 l))]⟩) 1 from max_loop l o c h0 hl))
    (oA (oS (@rfl _ (jU (maxU l l.length)))) <| oA (oS (show AObj.ro o (ints .u8 l) = AObj.ro o (ints .u8 l) from rfl)) <| oS (show AvoidO (fun n => decide (1 ≤ n)) (AObj.ro o (ints .u8 l)) from AvoidO.ro (AvoidL.ints _ _ _))) (by kernel_rfl)
theorem none_meets (l : List Int) (o c : Nat) (h0 : 1 ≤ l.length) (hl : l.length < 9223372036854775808) (hd : Dig l) : Meets Try.prog 59 [AV.slice 0 o l.length c] [AObj.ro o (ints .u8 l)] (jB (decide (val l = 0))) [AObj.ro o (ints .u8 l)] := by
  exact qzy (fn := Try.f59) 0 [rG [], rG [(1, {call := some ⟨[0], [AV.slice 0 o l.length c], [AObj.ro o (ints .u8 l)], jU (maxU l l.length), [AObj.ro o (ints .u8 l)]⟩, obj := some [AObj.ro o (ints .u8 l)]})]] [{}] Try.func59 (by kernel_rfl) Try.call59
    (oA (oS (show [AV.slice 0 o l.length c] = renL [0] [AV.slice 0 o l.length c] from rfl)) <| oA (oS (show Meets Try.prog 77 [AV.slice 0 o l.length c] [AObj.ro o (ints .u8 l)] (jU (maxU l l.length)) [AObj.ro o (ints .u8 l)] from max_meets l o c h0 hl)) <| oA (oS (show Fits (AObj.ro o (ints .u8 l)) (AObj.ren [0] (AObj.ro o (ints .u8 l))) from Fits.of_eq (by simp only [AObj.ren, renL, AV.ren, qzu, qxy, qyx]))) <| oS (show updOf [0] [AObj.ro o (ints .u8 l)] [AObj.ro o (ints .u8 l)] [AObj.ro o (ints .u8 l)] ++ List.map (fun x => x.ren [0]) (List.drop 1 [AObj.ro o (ints .u8 l)]) = [AObj.ro o (ints .u8 l)] from rfl))
    (oA (oS (show jB ((maxU l l.length) == 0) = jB (decide (val l = 0)) from boolE (by rw [Bool.eq_iff_iff]; simp [maxU_val hd h0]))) <| oA (oS (show AObj.ro o (ints .u8 l) = AObj.ro o (ints .u8 l) from rfl)) <| oS (show AvoidO (fun n => decide (1 ≤ n)) (AObj.ro o (ints .u8 l)) from AvoidO.ro (AvoidL.ints _ _ _))) (by kernel_rfl)
def sgnOf (a b : Bool) : Int := if a = b then 1 else -1
def added_inv (mx my : Bool) (ys : List Int) (s : Int) (zs : List Int) (c ii : Int) : AState :=
  ⟨([none, none, sP 0 0, sP 1 0, sP 2 0, sI s, sI c, sI ii] ++ nn 36), [some (jC ((jB mx) :: (ints .u8 zs)) 50), some (jC ((jB my) :: (ints .u8 ys)) 50), some (jC ((jB false) :: (ints .u8 (List.replicate 88 0))) 50)]⟩
theorem added_round (mx my : Bool) (ys : List Int) (s : Int) (zs : List Int) (c : Int) (k : Nat) (hk : k < 88) (hz : zs.length = 88) (hy : ys.length = 88) (h1 : 0 ≤ zs.getD k 0 ∧ zs.getD k 0 ≤ 9) (h2 : -9 ≤ s * ys.getD k 0 ∧ s * ys.getD k 0 ≤ 9) (h3 : -1 ≤ c ∧ c ≤ 1) (h4 : 0 ≤ ys.getD k 0 ∧ ys.getD k 0 ≤ 9) : Tri Try.prog (loopN (qzx Try.f60) 0) (added_inv mx my ys s zs c k) .normal (added_inv mx my ys s (zs.set k ((10 + zs.getD k 0 + s * ys.getD k 0 + c) % 10)) ((10 + zs.getD k 0 + s * ys.getD k 0 + c) / 10 - 1) ((k : Int) - 1)) := by
  exact qxz [rG [hhB 1 true], rG [hhV 2 (jP 0 (k + 1)), hhV 3 (jU (zs.getD k 0)), hhI 4 (zs.getD k 0), hhI 5 (10 + (zs.getD k 0)), hhV 9 (jP 1 (k + 1)), hhV 10 (jU (ys.getD k 0)), hhI 11 (ys.getD k 0), hhI 12 (s * ys.getD k 0), hhI 13 ((10 + (zs.getD k 0)) + (s * ys.getD k 0)), hhI 15 (((10 + (zs.getD k 0)) + (s * ys.getD k 0)) + c)], rG [hhI 2 ((((10 + (zs.getD k 0)) + (s * ys.getD k 0)) + c) % 10), hhV 3 (jU ((((10 + (zs.getD k 0)) + (s * ys.getD k 0)) + c) % 10)), hhV 5 (jP 0 (k + 1)), (6, {obj := some [jC ((jB mx) :: (ints .u8 (zs.set k ((((10 + (zs.getD k 0)) + (s * ys.getD k 0)) + c) % 10)))) 50]})], rG [hhI 1 ((((10 + (zs.getD k 0)) + (s * ys.getD k 0)) + c) / 10), hhI 2 (((((10 + (zs.getD k 0)) + (s * ys.getD k 0)) + c) / 10) - 1)], rG [hhI 1 (((k : Nat) : Int) - 1)]]
    (oA (oS (show AV.bool (decide (((k : Nat) : Int) ≥ 0)) = jB true from bT (by omega))) <| oA (oS (show 0 ≤ ((k : Nat) : Int) from by omega)) <| oA (oS (show ((k : Nat) : Int) < ((88 : Nat) : Int) from by omega)) <| oA (oS (show AV.ptr 0 (1 + Int.toNat ((k : Nat) : Int) * 1) = jP 0 (k + 1) from ptrE (by omega))) <| oA (oLf ((jB mx) :: (ints .u8 zs)) ((k + 1)) (jU (zs.getD k 0)) (ints_get' (by omega))) <| oA (oWs (zs.getD k 0) (by omega)) <| oA (oWs (10 + (zs.getD k 0)) (by omega)) <| oA (oS (show 0 ≤ ((k : Nat) : Int) from by omega)) <| oA (oS (show ((k : Nat) : Int) < ((88 : Nat) : Int) from by omega)) <| oA (oS (show AV.ptr 1 (1 + Int.toNat ((k : Nat) : Int) * 1) = jP 1 (k + 1) from ptrE (by omega))) <| oA (oLf ((jB my) :: (ints .u8 ys)) ((k + 1)) (jU (ys.getD k 0)) (ints_get' (by omega))) <| oA (oWs (ys.getD k 0) (by omega)) <| oA (oW (s * (ys.getD k 0)) (s * ys.getD k 0) (by omega)) <| oA (oWs ((10 + (zs.getD k 0)) + (s * ys.getD k 0)) (by omega)) <| oA (oWs (((10 + (zs.getD k 0)) + (s * ys.getD k 0)) + c) (by omega)) <| oA (oS (show (10 : Int) ≠ 0 from by decide)) <| oA (oS (show AV.int .i64 ((((10 + (zs.getD k 0)) + (s * ys.getD k 0)) + c).tmod 10) = jI ((((10 + (zs.getD k 0)) + (s * ys.getD k 0)) + c) % 10) from remI (by omega))) <| oA (oS (show AV.int .u8 (IntKind.u8.wrap ((((10 + (zs.getD k 0)) + (s * ys.getD k 0)) + c) % 10)) = jU ((((10 + (zs.getD k 0)) + (s * ys.getD k 0)) + c) % 10) from w_u8 (by omega))) <| oA (oS (show 0 ≤ ((k : Nat) : Int) from by omega)) <| oA (oS (show ((k : Nat) : Int) < ((88 : Nat) : Int) from by omega)) <| oA (oS (show AV.ptr 0 (1 + Int.toNat ((k : Nat) : Int) * 1) = jP 0 (k + 1) from ptrE (by omega))) <| oA (oS (show ([jU ((((10 + (zs.getD k 0)) + (s * ys.getD k 0)) + c) % 10)] : List AV).length = 1 from rfl)) <| oA (oS (show (k + 1) + 1 ≤ List.length ((jB mx) :: (ints .u8 zs)) from lnO)) <| oA (oS (show AObj.cells (List.take (k + 1) ((jB mx) :: (ints .u8 zs)) ++ [jU ((((10 + (zs.getD k 0)) + (s * ys.getD k 0)) + c) % 10)] ++ List.drop ((k + 1) + 1) ((jB mx) :: (ints .u8 zs))) 50 = jC ((jB mx) :: (ints .u8 (zs.set k ((((10 + (zs.getD k 0)) + (s * ys.getD k 0)) + c) % 10)))) 50 from store_ints [jB mx] (by omega))) <| oA (oS (show (10 : Int) ≠ 0 from by decide)) <| oA (oS (show AV.int .i64 (IntKind.i64.wrap ((((10 + (zs.getD k 0)) + (s * ys.getD k 0)) + c).tdiv 10)) = jI ((((10 + (zs.getD k 0)) + (s * ys.getD k 0)) + c) / 10) from quoI (by omega))) <| oA (oWs (((((10 + (zs.getD k 0)) + (s * ys.getD k 0)) + c) / 10) - 1) (by omega)) <| oWs (((k : Nat) : Int) - 1) (by omega))
    (oA (oR [jP 0 0, jP 1 0, jP 2 0, jI s]) <| oA (oS (show jI (((((10 + (zs.getD k 0)) + (s * ys.getD k 0)) + c) / 10) - 1) = jI ((10 + zs.getD k 0 + s * ys.getD k 0 + c) / 10 - 1) from intE (by omega))) <| oA (oR [jI (((k : Nat) : Int) - 1)]) <| oQ [jC ((jB mx) :: (ints .u8 (zs.set k ((((10 + (zs.getD k 0)) + (s * ys.getD k 0)) + c) % 10)))) 50, jC ((jB my) :: (ints .u8 ys)) 50, jC ((jB false) :: (ints .u8 (List.replicate 88 0))) 50]) (by kernel_rfl)
def added_out (mx my : Bool) (ys zs : List Int) : AState :=
  ⟨([none, none, sP 0 0, none, sP 2 0] ++ nn 39), [some (jC ((jB mx) :: (ints .u8 zs)) 50), some (jC ((jB my) :: (ints .u8 ys)) 50), some (jC ((jB false) :: (ints .u8 (List.replicate 88 0))) 50)]⟩
theorem added_last (mx my : Bool) (ys : List Int) (s : Int) (zs : List Int) (c : Int) : Tri Try.prog (loopN (qzx Try.f60) 0) (added_inv mx my ys s zs c (-1)) (.exit 0) (added_out mx my ys zs) := by
  exact qxz [rG [hhB 1 false]]
    (oS (show AV.bool (decide ((-1) ≥ 0)) = jB false from bF (by decide)))
    (oA (oR [jP 0 0, jP 2 0]) <| oQ [jC ((jB mx) :: (ints .u8 zs)) 50, jC ((jB my) :: (ints .u8 ys)) 50, jC ((jB false) :: (ints .u8 (List.replicate 88 0))) 50]) (by kernel_rfl)
theorem added_loop (mx my : Bool) (s : Int) (hs : s = 1 ∨ s = -1) (xs ys : List Int) (hx : Dig xs) (hy : Dig ys) (lx : xs.length = 88) (ly : ys.length = 88) :
    Tri Try.prog (.loop (loopN (qzx Try.f60) 0)) (added_inv mx my ys s xs 0 87) (.exit 0) (added_out mx my ys (addArr s xs ys 0)) := by
  have e1 : addArr s xs ys 88 = xs := by rw [← lx]; exact addArr_end
  have e2 : addCarry s xs ys 88 = 0 := by rw [← lx]; exact addCarry_end
  have h := tri_down (P := Try.prog) (body := loopN (qzx Try.f60) 0) (ex := .exit 0) (out := added_out mx my ys (addArr s xs ys 0)) (fun k => added_inv mx my ys s (addArr s xs ys k) (addCarry s xs ys k) ((k : Int) - 1)) (ne_normal_exit 0) 88
    (fun k hk => by
      have hst := addArr_step (s := s) (xs := xs) (ys := ys) (k := k) (by omega) (by omega)
      have hg := addArr_get (s := s) (xs := xs) (ys := ys) (k := k) (by omega)
      rw [← hg] at hst
      have by1 := hy.getD k
      have hd : Dig xs := hx
      have hsy : -9 ≤ s * ys.getD k 0 ∧ s * ys.getD k 0 ≤ 9 := by rcases hs with rfl | rfl <;> omega
      have hr := added_round mx my ys s (addArr s xs ys (k + 1)) (addCarry s xs ys (k + 1)) k hk (by rw [addArr_length hs hx hy (by omega) (by omega), lx]) ly (by rw [hg]; exact hx.getD k) hsy (addCarry_bounds hs hx hy (by omega)) by1
      rw [hst.1, ← hst.2] at hr
      simp only [show (((k + 1 : Nat) : Int) - 1) = k by omega]
      exact hr)
    (by simp only [show (((0 : Nat) : Int) - 1) = -1 by omega]; exact added_last mx my ys s _ _) 88 (Nat.le_refl _)
  simp only [e1, e2, show (((88 : Nat) : Int) - 1) = 87 by omega] at h
  exact h
theorem added_meets (mx my : Bool) (xs ys : List Int) (hx : Dig xs) (hy : Dig ys) (lx : xs.length = 88) (ly : ys.length = 88) (ds : List Int) (hds : addArr (sgnOf mx my) xs ys 0 = ds) : Meets Try.prog 60 [jA ((jB mx) :: (ints .u8 xs)), jA ((jB my) :: (ints .u8 ys))] [] (jA ((jB mx) :: (ints .u8 ds))) [] := by
  have hl1 := addArr_length (s := 1) (k := 0) (.inl rfl) hx hy (by omega) (by omega)
  have hl2 := addArr_length (s := -1) (k := 0) (.inr rfl) hx hy (by omega) (by omega)
  have o1 := oA (oS (show AObj.cells (zeroCellsA Try.prog 50) 50 = jC ((jB false) :: (ints .u8 (List.replicate 88 0))) 50 from by kernel_rfl)) <| oA (oLf ((jB mx) :: (ints .u8 xs)) (0) (jB mx) (rfl)) <| oLf ((jB my) :: (ints .u8 ys)) (0) (jB my) (rfl)
  let q1 : List Orc := [rG [hhN 0 0, hhN 1 1, (2, {nm := [2], obj := some [jC ((jB false) :: (ints .u8 (List.replicate 88 0))) 50]})], rG []]
  by_cases c1 : mx = my
  · exact qzy (fn := Try.f60) 3 (q1 ++ [rG [hhV 1 (jB mx), hhV 3 (jB my), hhB 4 false], rG [], rG [], .loop (⟨([none, none, sP 0 0, sP 1 0, sP 2 0, sI 1, sI 0, sI 87] ++ nn 36), [some (jC ((jB mx) :: (ints .u8 xs)) 50), some (jC ((jB my) :: (ints .u8 ys)) 50), some (jC ((jB false) :: (ints .u8 (List.replicate 88 0))) 50)]⟩) (.exit 0) (⟨([none, none, sP 0 0, none, sP 2 0] ++ nn 39), [some (jC ((jB mx) :: (ints .u8 (addArr 1 xs ys 0))) 50), some (jC ((jB my) :: (ints .u8 ys)) 50), some (jC ((jB false) :: (ints .u8 (List.replicate 88 0))) 50)]⟩), rG [hhV 0 (jA ((jB mx) :: (ints .u8 (addArr 1 xs ys 0)))), (1, {obj := some [jC ((jB mx) :: (ints .u8 (addArr 1 xs ys 0))) 50]})]]) [{val := some (jA ((jB mx) :: (ints .u8 (addArr 1 xs ys 0))))}] Try.func60 (by kernel_rfl) Try.call60
      (oA o1 <| oA (oS (sneF c1)) <| oA (oR [jP 0 0, jP 1 0, jP 2 0, jI 1, jI 0, jI 87]) <| oA (oQ [jC ((jB mx) :: (ints .u8 xs)) 50, jC ((jB my) :: (ints .u8 ys)) 50, jC ((jB false) :: (ints .u8 (List.replicate 88 0))) 50]) <| oA (oS (show Tri Try.prog (.loop (loopN (qzx Try.f60) 0)) (⟨([none, none, sP 0 0, sP 1 0, sP 2 0, sI 1, sI 0, sI 87] ++ nn 36), [some (jC ((jB mx) :: (ints .u8 xs)) 50), some (jC ((jB my) :: (ints .u8 ys)) 50), some (jC ((jB false) :: (ints .u8 (List.replicate 88 0))) 50)]⟩) (.exit 0) (⟨([none, none, sP 0 0, none, sP 2 0] ++ nn 39), [some (jC ((jB mx) :: (ints .u8 (addArr 1 xs ys 0))) 50), some (jC ((jB my) :: (ints .u8 ys)) 50), some (jC ((jB false) :: (ints .u8 (List.replicate 88 0))) 50)]⟩) from added_loop mx my 1 (by decide) xs ys hx hy lx ly)) <| oA (oLw (n := 89) ((jB mx) :: (ints .u8 (addArr 1 xs ys 0))) lnO) <| oSw (n := 89) ((jB mx) :: (ints .u8 (addArr 1 xs ys 0))) ((jB false) :: (ints .u8 (List.replicate 88 0))) 50 lnO lnO)
      (oA (oLw (n := 89) ((jB mx) :: (ints .u8 (addArr 1 xs ys 0))) lnO) <| oA (oS (show jA ((jB mx) :: (ints .u8 (addArr 1 xs ys 0))) = jA ((jB mx) :: (ints .u8 ds)) from by rw [← hds, sgnOf, if_pos c1])) <| oS (show Avoid (fun n => decide (0 ≤ n)) (jA ((jB mx) :: (ints .u8 ds))) from Avoid.agg (AvoidL.cons (Avoid.bool _ _) (AvoidL.ints _ _ _)))) (by kernel_rfl)
  · exact qzy (fn := Try.f60) 3 (q1 ++ [rG [hhV 1 (jB mx), hhV 3 (jB my), hhB 4 true], rG [], rG [], rG [], .loop (⟨([none, none, sP 0 0, sP 1 0, sP 2 0, sI (-1), sI 0, sI 87] ++ nn 36), [some (jC ((jB mx) :: (ints .u8 xs)) 50), some (jC ((jB my) :: (ints .u8 ys)) 50), some (jC ((jB false) :: (ints .u8 (List.replicate 88 0))) 50)]⟩) (.exit 0) (⟨([none, none, sP 0 0, none, sP 2 0] ++ nn 39), [some (jC ((jB mx) :: (ints .u8 (addArr (-1) xs ys 0))) 50), some (jC ((jB my) :: (ints .u8 ys)) 50), some (jC ((jB false) :: (ints .u8 (List.replicate 88 0))) 50)]⟩), rG [hhV 0 (jA ((jB mx) :: (ints .u8 (addArr (-1) xs ys 0)))), (1, {obj := some [jC ((jB mx) :: (ints .u8 (addArr (-1) xs ys 0))) 50]})]]) [{val := some (jA ((jB mx) :: (ints .u8 (addArr (-1) xs ys 0))))}] Try.func60 (by kernel_rfl) Try.call60
      (oA o1 <| oA (oS (sneT c1)) <| oA (oR [jP 0 0, jP 1 0, jP 2 0, jI (-1), jI 0, jI 87]) <| oA (oQ [jC ((jB mx) :: (ints .u8 xs)) 50, jC ((jB my) :: (ints .u8 ys)) 50, jC ((jB false) :: (ints .u8 (List.replicate 88 0))) 50]) <| oA (oS (show Tri Try.prog (.loop (loopN (qzx Try.f60) 0)) (⟨([none, none, sP 0 0, sP 1 0, sP 2 0, sI (-1), sI 0, sI 87] ++ nn 36), [some (jC ((jB mx) :: (ints .u8 xs)) 50), some (jC ((jB my) :: (ints .u8 ys)) 50), some (jC ((jB false) :: (ints .u8 (List.replicate 88 0))) 50)]⟩) (.exit 0) (⟨([none, none, sP 0 0, none, sP 2 0] ++ nn 39), [some (jC ((jB mx) :: (ints .u8 (addArr (-1) xs ys 0))) 50), some (jC ((jB my) :: (ints .u8 ys)) 50), some (jC ((jB false) :: (ints .u8 (List.replicate 88 0))) 50)]⟩) from added_loop mx my (-1) (by decide) xs ys hx hy lx ly)) <| oA (oLw (n := 89) ((jB mx) :: (ints .u8 (addArr (-1) xs ys 0))) lnO) <| oSw (n := 89) ((jB mx) :: (ints .u8 (addArr (-1) xs ys 0))) ((jB false) :: (ints .u8 (List.replicate 88 0))) 50 lnO lnO)
      (oA (oLw (n := 89) ((jB mx) :: (ints .u8 (addArr (-1) xs ys 0))) lnO) <| oA (oS (show jA ((jB mx) :: (ints .u8 (addArr (-1) xs ys 0))) = jA ((jB mx) :: (ints .u8 ds)) from by rw [← hds, sgnOf, if_neg c1])) <| oS (show Avoid (fun n => decide (0 ≤ n)) (jA ((jB mx) :: (ints .u8 ds))) from Avoid.agg (AvoidL.cons (Avoid.bool _ _) (AvoidL.ints _ _ _)))) (by kernel_rfl)
def times_inv (mx : Bool) (m : Int) (zs : List Int) (c ii : Int) : AState :=
  ⟨([none, sI m, sP 0 0, none, sP 1 0, sI c, sI ii] ++ nn 23), [some (jC ((jB mx) :: (ints .u8 zs)) 50), some (jC ((jB false) :: (ints .u8 (List.replicate 88 0))) 50)]⟩
theorem times_round (mx : Bool) (m : Int) (zs : List Int) (c : Int) (k : Nat) (hk : k < 88) (hz : zs.length = 88) (h1 : 0 ≤ zs.getD k 0 ∧ zs.getD k 0 ≤ 9) (h2 : 0 ≤ zs.getD k 0 * m ∧ zs.getD k 0 * m ≤ 9 * m) (h3 : 0 ≤ c ∧ c ≤ m) (h4 : 0 ≤ m ∧ m < 1000000000000000) : Tri Try.prog (loopN (qzx Try.f75) 0) (times_inv mx m zs c k) .normal (times_inv mx m (zs.set k ((zs.getD k 0 * m + c) % 10)) ((zs.getD k 0 * m + c) / 10) ((k : Int) - 1)) := by
  exact qxz [rG [hhB 1 true], rG [hhV 2 (jP 0 (k + 1)), hhV 3 (jU (zs.getD k 0)), hhI 4 (zs.getD k 0), hhI 6 (zs.getD k 0 * m), hhI 8 ((zs.getD k 0 * m) + c)], rG [hhI 2 (((zs.getD k 0 * m) + c) % 10), hhV 3 (jU (((zs.getD k 0 * m) + c) % 10)), hhV 5 (jP 0 (k + 1)), (6, {obj := some [jC ((jB mx) :: (ints .u8 (zs.set k (((zs.getD k 0 * m) + c) % 10)))) 50]})], rG [hhI 1 (((zs.getD k 0 * m) + c) / 10)], rG [hhI 1 (((k : Nat) : Int) - 1)]]
    (oA (oS (show AV.bool (decide (((k : Nat) : Int) ≥ 0)) = jB true from bT (by omega))) <| oA (oS (show 0 ≤ ((k : Nat) : Int) from by omega)) <| oA (oS (show ((k : Nat) : Int) < ((88 : Nat) : Int) from by omega)) <| oA (oS (show AV.ptr 0 (1 + Int.toNat ((k : Nat) : Int) * 1) = jP 0 (k + 1) from ptrE (by omega))) <| oA (oLf ((jB mx) :: (ints .u8 zs)) ((k + 1)) (jU (zs.getD k 0)) (ints_get' (by omega))) <| oA (oWs (zs.getD k 0) (by omega)) <| oA (oW ((zs.getD k 0) * m) (zs.getD k 0 * m) (by omega)) <| oA (oWs ((zs.getD k 0 * m) + c) (by omega)) <| oA (oS (show (10 : Int) ≠ 0 from by decide)) <| oA (oS (show AV.int .i64 (((zs.getD k 0 * m) + c).tmod 10) = jI (((zs.getD k 0 * m) + c) % 10) from remI (by omega))) <| oA (oS (show AV.int .u8 (IntKind.u8.wrap (((zs.getD k 0 * m) + c) % 10)) = jU (((zs.getD k 0 * m) + c) % 10) from w_u8 (by omega))) <| oA (oS (show 0 ≤ ((k : Nat) : Int) from by omega)) <| oA (oS (show ((k : Nat) : Int) < ((88 : Nat) : Int) from by omega)) <| oA (oS (show AV.ptr 0 (1 + Int.toNat ((k : Nat) : Int) * 1) = jP 0 (k + 1) from ptrE (by omega))) <| oA (oS (show ([jU (((zs.getD k 0 * m) + c) % 10)] : List AV).length = 1 from rfl)) <| oA (oS (show (k + 1) + 1 ≤ List.length ((jB mx) :: (ints .u8 zs)) from lnO)) <| oA (oS (show AObj.cells (List.take (k + 1) ((jB mx) :: (ints .u8 zs)) ++ [jU (((zs.getD k 0 * m) + c) % 10)] ++ List.drop ((k + 1) + 1) ((jB mx) :: (ints .u8 zs))) 50 = jC ((jB mx) :: (ints .u8 (zs.set k (((zs.getD k 0 * m) + c) % 10)))) 50 from store_ints [jB mx] (by omega))) <| oA (oS (show (10 : Int) ≠ 0 from by decide)) <| oA (oS (show AV.int .i64 (IntKind.i64.wrap (((zs.getD k 0 * m) + c).tdiv 10)) = jI (((zs.getD k 0 * m) + c) / 10) from quoI (by omega))) <| oWs (((k : Nat) : Int) - 1) (by omega))
    (oA (oR [jI m, jP 0 0, jP 1 0, jI (((zs.getD k 0 * m) + c) / 10), jI (((k : Nat) : Int) - 1)]) <| oQ [jC ((jB mx) :: (ints .u8 (zs.set k (((zs.getD k 0 * m) + c) % 10)))) 50, jC ((jB false) :: (ints .u8 (List.replicate 88 0))) 50]) (by kernel_rfl)
def times_out (mx : Bool) (zs : List Int) : AState :=
  ⟨([none, none, sP 0 0, none, sP 1 0] ++ nn 25), [some (jC ((jB mx) :: (ints .u8 zs)) 50), some (jC ((jB false) :: (ints .u8 (List.replicate 88 0))) 50)]⟩
theorem times_last (mx : Bool) (m : Int) (zs : List Int) (c : Int) : Tri Try.prog (loopN (qzx Try.f75) 0) (times_inv mx m zs c (-1)) (.exit 0) (times_out mx zs) := by
  exact qxz [rG [hhB 1 false]]
    (oS (show AV.bool (decide ((-1) ≥ 0)) = jB false from bF (by decide)))
    (oA (oR [jP 0 0, jP 1 0]) <| oQ [jC ((jB mx) :: (ints .u8 zs)) 50, jC ((jB false) :: (ints .u8 (List.replicate 88 0))) 50]) (by kernel_rfl)
theorem times_loop (mx : Bool) (m : Int) (hm : 0 ≤ m ∧ m < 1000000000000000) (xs : List Int) (hx : Dig xs) (lx : xs.length = 88) :
    Tri Try.prog (.loop (loopN (qzx Try.f75) 0)) (times_inv mx m xs 0 87) (.exit 0) (times_out mx (timesArr m xs 0)) := by
  have e1 : timesArr m xs 88 = xs := by rw [← lx]; exact timesArr_end
  have e2 : timesCarry m xs 88 = 0 := by rw [← lx]; exact timesCarry_end
  have h := tri_down (P := Try.prog) (body := loopN (qzx Try.f75) 0) (ex := .exit 0) (out := times_out mx (timesArr m xs 0)) (fun k => times_inv mx m (timesArr m xs k) (timesCarry m xs k) ((k : Int) - 1)) (ne_normal_exit 0) 88
    (fun k hk => by
      have hst := timesArr_step (m := m) (xs := xs) (k := k) (by omega)
      have hg := timesArr_get (m := m) (xs := xs) (k := k) (by omega)
      rw [← hg] at hst
      have hk9 := hx.getD k
      have hzm : 0 ≤ xs.getD k 0 * m ∧ xs.getD k 0 * m ≤ 9 * m := ⟨Int.mul_nonneg hk9.1 hm.1, Int.mul_le_mul_of_nonneg_right hk9.2 hm.1⟩
      rw [← hg] at hk9 hzm
      have hr := times_round mx m (timesArr m xs (k + 1)) (timesCarry m xs (k + 1)) k hk (by rw [timesArr_length hm.1 hx (by omega), lx]) hk9 hzm (timesCarry_bounds hm.1 hx) hm
      rw [hst.1, ← hst.2] at hr
      simp only [show (((k + 1 : Nat) : Int) - 1) = k by omega]
      exact hr)
    (by simp only [show (((0 : Nat) : Int) - 1) = -1 by omega]; exact times_last mx m _ _) 88 (Nat.le_refl _)
  simp only [e1, e2, show (((88 : Nat) : Int) - 1) = 87 by omega] at h
  exact h
theorem times_meets (mx : Bool) (m : Int) (hm : 0 ≤ m ∧ m < 1000000000000000) (xs : List Int) (hx : Dig xs) (lx : xs.length = 88) (ds : List Int) (hds : timesArr m xs 0 = ds) : Meets Try.prog 75 [jA ((jB mx) :: (ints .u8 xs)), jI m] [] (jA ((jB mx) :: (ints .u8 ds))) [] := by
  have hlen : ds.length = 88 := by rw [← hds, timesArr_length hm.1 hx (by omega), lx]
  have hl := times_loop mx m hm xs hx lx
  rw [hds] at hl
  exact qzy (fn := Try.f75) 2 [rG [hhN 0 0, (1, {nm := [1], obj := some [jC ((jB false) :: (ints .u8 (List.replicate 88 0))) 50]})], rG [], rG [], .loop (⟨([none, sI m, sP 0 0, none, sP 1 0, sI 0, sI 87] ++ nn 23), [some (jC ((jB mx) :: (ints .u8 xs)) 50), some (jC ((jB false) :: (ints .u8 (List.replicate 88 0))) 50)]⟩) (.exit 0) (⟨([none, none, sP 0 0, none, sP 1 0] ++ nn 25), [some (jC ((jB mx) :: (ints .u8 ds)) 50), some (jC ((jB false) :: (ints .u8 (List.replicate 88 0))) 50)]⟩), rG [hhV 0 (jA ((jB mx) :: (ints .u8 ds))), (1, {obj := some [jC ((jB mx) :: (ints .u8 ds)) 50]})]] [{val := some (jA ((jB mx) :: (ints .u8 ds)))}] Try.func75 (by kernel_rfl) Try.call75
    (oA (oS (show AObj.cells (zeroCellsA Try.prog 50) 50 = jC ((jB false) :: (ints .u8 (List.replicate 88 0))) 50 from by kernel_rfl)) <| oA (oR [jI m, jP 0 0, jP 1 0, jI 0, jI 87]) <| oA (oQ [jC ((jB mx) :: (ints .u8 xs)) 50, jC ((jB false) :: (ints .u8 (List.replicate 88 0))) 50]) <| oA (oS (show Tri Try.prog (.loop (loopN (qzx Try.f75) 0)) (⟨([none, sI m, sP 0 0, none, sP 1 0, sI 0, sI 87] ++ nn 23), [some (jC ((jB mx) :: (ints .u8 xs)) 50), some (jC ((jB false) :: (ints .u8 (List.replicate 88 0))) 50)]⟩) (.exit 0) (⟨([none, none, sP 0 0, none, sP 1 0] ++ nn 25), [some (jC ((jB mx) :: (ints .u8 ds)) 50), some (jC ((jB false) :: (ints .u8 (List.replicate 88 0))) 50)]⟩) from hl)) <| oA (oLw (n := 89) ((jB mx) :: (ints .u8 ds)) lnO) <| oSw (n := 89) ((jB mx) :: (ints .u8 ds)) ((jB false) :: (ints .u8 (List.replicate 88 0))) 50 lnO lnO)
    (oA (oLw (n := 89) ((jB mx) :: (ints .u8 ds)) lnO) <| oA (oS (@rfl _ (jA ((jB mx) :: (ints .u8 ds))))) <| oS (show Avoid (fun n => decide (0 ≤ n)) (jA ((jB mx) :: (ints .u8 ds))) from Avoid.agg (AvoidL.cons (Avoid.bool _ _) (AvoidL.ints _ _ _)))) (by kernel_rfl)
def capN (n : Int) : Int := if n ≤ 999999999999999 then n else 0
def capB (n : Int) : Bool := decide (n ≤ 999999999999999)
theorem cap_pos {r : List Nat} {n : Int} (h : n ≤ 999999999999999) : AV.ren r (AV.tuple [.int .i64 (capN n), .bool (capB n)]) = AV.tuple [.int .i64 n, .bool true] := by simp [AV.ren, renL, capN, capB, h]
theorem cap_neg {r : List Nat} {n : Int} (h : ¬ n ≤ 999999999999999) : AV.ren r (AV.tuple [.int .i64 (capN n), .bool (capB n)]) = AV.tuple [.int .i64 0, .bool false] := by simp [AV.ren, renL, capN, capB, h]
theorem capE_pos {n : Int} (h : n ≤ 999999999999999) : AV.tuple [.int .i64 n, .bool true] = AV.tuple [.int .i64 (capN n), .bool (capB n)] := by simp [capN, capB, h]
theorem capE_neg {n : Int} (h : ¬ n ≤ 999999999999999) : AV.tuple [.int .i64 0, .bool false] = AV.tuple [.int .i64 (capN n), .bool (capB n)] := by simp [capN, capB, h]
theorem val_take_succ {l : List Int} {k : Nat} (h : k < l.length) : val (l.take (k + 1)) = val (l.take k) * 10 + l.getD k 0 := by
  rw [List.take_succ_eq_append_getElem h, val_snoc]; simp [List.getD, h]
theorem val_take_mono {l : List Int} (hd : Dig l) : ∀ {k n : Nat}, k ≤ n → n ≤ l.length → val (l.take k) ≤ val (l.take n)
  | k, 0, h, _ => by rw [show k = 0 by omega]; exact Int.le_refl _
  | k, n + 1, h, hn => by
    by_cases e : k = n + 1
    · rw [e]; exact Int.le_refl _
    · have h1 := val_take_mono hd (k := k) (n := n) (by omega) (by omega)
      rw [val_take_succ (by omega)]
      have := hd.getD n
      have := (val_bounds _ (hd.take n)).1
      omega
def whole_inv (mx : Bool) (ds : List Int) (e : Int) (w : Nat) (n : Int) (k : Nat) : AState :=
  ⟨([sP 0 0, sI e, none, none, none, none, sI n, none, none, none, none, none, none, none, some (AV.slice 0 1 w 88), sI ((w : Nat) : Int), sI ((k : Nat) : Int)] ++ nn 12), [some (jC ((jB mx) :: (ints .u8 ds)) 50)]⟩
theorem whole_round (mx : Bool) (ds : List Int) (e : Int) (w : Nat) (n : Int) (k : Nat) (hl : ds.length = 88) (hw : w ≤ 88) (hk : k < w) (hn : 0 ≤ n ∧ n ≤ 999999999999999) (hd : 0 ≤ ds.getD k 0 ∧ ds.getD k 0 ≤ 9) (h : ¬ (n * 10 + ds.getD k 0) > 999999999999999) : Tri Try.prog (loopN (qzx Try.f58) 0) (whole_inv mx ds e w n k) .normal (whole_inv mx ds e w (n * 10 + ds.getD k 0) (k + 1)) 1 := by
  exact qxz [rG [hhB 0 true], rG [hhV 0 (jP 0 (k + 1)), hhV 1 (jU (ds.getD k 0))], rG [hhI 1 (n * 10), hhI 3 (ds.getD k 0), hhI 4 ((n * 10) + (ds.getD k 0))], rG [hhB 1 false], rG [hhI 0 ((k + 1 : Nat) : Int)]]
    (oA (oS (show AV.bool (decide (((k : Nat) : Int) < ((w : Nat) : Int))) = jB true from bT (by omega))) <| oA (oS (show 0 ≤ ((k : Nat) : Int) from by omega)) <| oA (oS (show ((k : Nat) : Int) < ((w : Nat) : Int) from by omega)) <| oA (oS (show AV.ptr 0 (1 + Int.toNat ((k : Nat) : Int) * 1) = jP 0 (k + 1) from ptrE (by omega))) <| oA (oLf ((jB mx) :: (ints .u8 ds)) ((k + 1)) (jU (ds.getD k 0)) (ints_get' (by omega))) <| oA (oWs (n * 10) (by omega)) <| oA (oWs (ds.getD k 0) (by omega)) <| oA (oWs ((n * 10) + (ds.getD k 0)) (by omega)) <| oA (oS (bF h)) <| oW (((k : Nat) : Int) + 1) ((k + 1 : Nat) : Int) (by omega))
    (oA (oR [jP 0 0, jI e, jI ((n * 10) + (ds.getD k 0)), AV.slice 0 1 w 88, jI ((w : Nat) : Int), jI ((k + 1 : Nat) : Int)]) <| oQ [jC ((jB mx) :: (ints .u8 ds)) 50]) (by kernel_rfl)
def whole_ret (mx : Bool) (ds : List Int) : AState :=
  ⟨([none, none, none, none, sI 0, sB false] ++ nn 23), [some (jC ((jB mx) :: (ints .u8 ds)) 50)]⟩
theorem whole_over (mx : Bool) (ds : List Int) (e : Int) (w : Nat) (n : Int) (k : Nat) (hl : ds.length = 88) (hw : w ≤ 88) (hk : k < w) (hn : 0 ≤ n ∧ n ≤ 999999999999999) (hd : 0 ≤ ds.getD k 0 ∧ ds.getD k 0 ≤ 9) (h : (n * 10 + ds.getD k 0) > 999999999999999) : Tri Try.prog (loopN (qzx Try.f58) 0) (whole_inv mx ds e w n k) .ret (whole_ret mx ds) 1 := by
  exact qxz [rG [hhB 0 true], rG [hhV 0 (jP 0 (k + 1)), hhV 1 (jU (ds.getD k 0))], rG [hhI 1 (n * 10), hhI 3 (ds.getD k 0), hhI 4 ((n * 10) + (ds.getD k 0))], rG [hhB 1 true], rG []]
    (oA (oS (show AV.bool (decide (((k : Nat) : Int) < ((w : Nat) : Int))) = jB true from bT (by omega))) <| oA (oS (show 0 ≤ ((k : Nat) : Int) from by omega)) <| oA (oS (show ((k : Nat) : Int) < ((w : Nat) : Int) from by omega)) <| oA (oS (show AV.ptr 0 (1 + Int.toNat ((k : Nat) : Int) * 1) = jP 0 (k + 1) from ptrE (by omega))) <| oA (oLf ((jB mx) :: (ints .u8 ds)) ((k + 1)) (jU (ds.getD k 0)) (ints_get' (by omega))) <| oA (oWs (n * 10) (by omega)) <| oA (oWs (ds.getD k 0) (by omega)) <| oA (oWs ((n * 10) + (ds.getD k 0)) (by omega)) <| oS (bT h))
    (oA (oR [jI 0, jB false]) <| oQ [jC ((jB mx) :: (ints .u8 ds)) 50]) (by kernel_rfl)
def whole_out (mx : Bool) (ds : List Int) (n : Int) : AState :=
  ⟨([none, none, none, none, none, none, sI n] ++ nn 22), [some (jC ((jB mx) :: (ints .u8 ds)) 50)]⟩
theorem whole_last (mx : Bool) (ds : List Int) (e : Int) (w : Nat) (n : Int) : Tri Try.prog (loopN (qzx Try.f58) 0) (whole_inv mx ds e w n w) (.exit 0) (whole_out mx ds n) 1 := by
  exact qxz [rG [hhB 0 false]]
    (oS (show AV.bool (decide (((w : Nat) : Int) < ((w : Nat) : Int))) = jB false from bF (by omega)))
    (oA (oR [jI n]) <| oQ [jC ((jB mx) :: (ints .u8 ds)) 50]) (by kernel_rfl)
theorem whole_loop_ok (mx : Bool) (ds : List Int) (e : Int) (w : Nat) (hl : ds.length = 88) (hw : w ≤ 88) (hd : Dig ds) (hN : val (ds.take w) ≤ 999999999999999) :
    Tri Try.prog (.loop (loopN (qzx Try.f58) 0)) (whole_inv mx ds e w 0 0) (.exit 0) (whole_out mx ds (val (ds.take w))) 1 := by
  have h := tri_up (P := Try.prog) (body := loopN (qzx Try.f58) 0) (ex := .exit 0) (out := whole_out mx ds (val (ds.take w))) (K := 1) (fun k => whole_inv mx ds e w (val (ds.take k)) k) (ne_normal_exit 0) w
    (fun k hk => by
      have h1 := val_take_mono hd (k := k + 1) (n := w) (by omega) (by omega)
      have h2 := val_take_mono hd (k := k) (n := w) (by omega) (by omega)
      have h3 := (val_bounds _ (hd.take k)).1
      rw [val_take_succ (by omega)] at h1
      have hr := whole_round mx ds e w (val (ds.take k)) k hl hw hk (by omega) (hd.getD k) (by omega)
      rw [← val_take_succ (by omega)] at hr
      exact hr) (whole_last mx ds e w _) 0 (Nat.zero_le _)
  simp only [List.take_zero, val_nil] at h
  exact h
theorem whole_loop_over (mx : Bool) (ds : List Int) (e : Int) (w : Nat) (hl : ds.length = 88) (hw : w ≤ 88) (hd : Dig ds) (hN : ¬ val (ds.take w) ≤ 999999999999999) :
    Tri Try.prog (.loop (loopN (qzx Try.f58) 0)) (whole_inv mx ds e w 0 0) .ret (whole_ret mx ds) 1 := by
  have h := tri_loop (P := Try.prog) (body := loopN (qzx Try.f58) 0) (ex := .ret) (out := whole_ret mx ds) (K := 1) (ι := {k : Nat // k ≤ w ∧ val (ds.take k) ≤ 999999999999999}) (fun i => whole_inv mx ds e w (val (ds.take i.1)) i.1) (fun i => w - i.1) ne_normal_ret
    (fun ⟨k, hk, hv⟩ => by
      have h0 : k < w := by
        rcases Nat.lt_or_ge k w with h | h
        · exact h
        · rw [show k = w by omega] at hv; exact absurd hv hN
      have h3 := (val_bounds _ (hd.take k)).1
      have hs := val_take_succ (l := ds) (k := k) (by omega)
      by_cases hc : val (ds.take (k + 1)) ≤ 999999999999999
      · refine .inl ⟨⟨k + 1, by omega, hc⟩, by simp only; omega, ?_⟩
        have hr := whole_round mx ds e w (val (ds.take k)) k hl hw h0 (by omega) (hd.getD k) (by omega)
        rw [← hs] at hr
        exact hr
      · exact .inr (whole_over mx ds e w (val (ds.take k)) k hl hw h0 (by omega) (hd.getD k) (by omega))) ⟨0, Nat.zero_le _, by simp [val_nil]⟩
  simp only [List.take_zero, val_nil] at h
  exact h
theorem whole_meets (mx : Bool) (ds : List Int) (e : Int) (w : Nat) (hl : ds.length = 88) (hd : Dig ds) (he : -40 ≤ e ∧ e ≤ 48) (hw' : 48 - e = w) : Meets Try.prog 58 [jP 0 0, jI e] [jC ((jB mx) :: (ints .u8 ds)) 50] (jT [jI (capN (val (ds.take w))), jB (capB (val (ds.take w)))]) [jC ((jB mx) :: (ints .u8 ds)) 50] := by
  have hw : w ≤ 88 := by omega
  have o1 := oA (oW (48 - e) ((w : Nat) : Int) (by omega)) <| oA (oS (show 0 ≤ (((w : Nat) : Int) : Int) from by omega)) <| oA (oS (show (0 : Nat) ≤ (Int.toNat (((w : Nat) : Int))) from by omega)) <| oA (oS (show ((Int.toNat (((w : Nat) : Int))) : Nat) ≤ 88 from by omega)) <| oA (oS (show (88 : Nat) ≤ 88 from by omega)) <| oS (show AV.slice 0 (if 88 = 0 then 1 else 1 + 0 * 1) ((Int.toNat (((w : Nat) : Int))) - 0) (88 - 0) = AV.slice 0 1 w 88 from sliceE (by first | (split <;> omega) | (simp; omega) | simp) (by omega) (by omega))
  let q1 : List Orc := [rG [], rG [], rG [hhI 4 ((w : Nat) : Int), hhV 5 (AV.slice 0 1 w 88)]]
  by_cases c1 : val (ds.take w) ≤ 999999999999999
  · exact qzy (fn := Try.f58) 0 (q1 ++ [.loop (⟨([sP 0 0, sI e, none, none, none, none, sI 0, none, none, none, none, none, none, none, some (AV.slice 0 1 w 88), sI ((w : Nat) : Int), sI 0] ++ nn 12), [some (jC ((jB mx) :: (ints .u8 ds)) 50)]⟩) (.exit 0) (⟨([none, none, none, none, none, none, sI (val (ds.take w))] ++ nn 22), [some (jC ((jB mx) :: (ints .u8 ds)) 50)]⟩), rG []]) [{}, {}] Try.func58 (by kernel_rfl) Try.call58
      (oA o1 <| oA (oR [jP 0 0, jI e, jI 0, AV.slice 0 1 w 88, jI ((w : Nat) : Int), jI 0]) <| oA (oQ [jC ((jB mx) :: (ints .u8 ds)) 50]) <| oS (show Tri Try.prog (.loop (loopN (qzx Try.f58) 0)) (⟨([sP 0 0, sI e, none, none, none, none, sI 0, none, none, none, none, none, none, none, some (AV.slice 0 1 w 88), sI ((w : Nat) : Int), sI 0] ++ nn 12), [some (jC ((jB mx) :: (ints .u8 ds)) 50)]⟩) (.exit 0) (⟨([none, none, none, none, none, none, sI (val (ds.take w))] ++ nn 22), [some (jC ((jB mx) :: (ints .u8 ds)) 50)]⟩) 1 from whole_loop_ok mx ds e w hl hw hd c1))
      (oA (oS (show jT [jI (val (ds.take w)), jB true] = jT [jI (capN (val (ds.take w))), jB (capB (val (ds.take w)))] from capE_pos c1)) <| oA (oV (D := (fun n => decide (1 ≤ n))) (jT [jI (capN (val (ds.take w))), jB (capB (val (ds.take w)))]) rfl) <| oA (oS (show jC ((jB mx) :: (ints .u8 ds)) 50 = jC ((jB mx) :: (ints .u8 ds)) 50 from rfl)) <| oS (show AvoidO (fun n => decide (1 ≤ n)) (jC ((jB mx) :: (ints .u8 ds)) 50) from AvoidO.cells (AvoidL.cons (Avoid.bool _ _) (AvoidL.ints _ _ _)))) (by kernel_rfl)
  · exact qzy (fn := Try.f58) 0 (q1 ++ [.loop (⟨([sP 0 0, sI e, none, none, none, none, sI 0, none, none, none, none, none, none, none, some (AV.slice 0 1 w 88), sI ((w : Nat) : Int), sI 0] ++ nn 12), [some (jC ((jB mx) :: (ints .u8 ds)) 50)]⟩) .ret (⟨([none, none, none, none, sI 0, sB false] ++ nn 23), [some (jC ((jB mx) :: (ints .u8 ds)) 50)]⟩)]) [{}, {}] Try.func58 (by kernel_rfl) Try.call58
      (oA o1 <| oA (oR [jP 0 0, jI e, jI 0, AV.slice 0 1 w 88, jI ((w : Nat) : Int), jI 0]) <| oA (oQ [jC ((jB mx) :: (ints .u8 ds)) 50]) <| oS (show Tri Try.prog (.loop (loopN (qzx Try.f58) 0)) (⟨([sP 0 0, sI e, none, none, none, none, sI 0, none, none, none, none, none, none, none, some (AV.slice 0 1 w 88), sI ((w : Nat) : Int), sI 0] ++ nn 12), [some (jC ((jB mx) :: (ints .u8 ds)) 50)]⟩) .ret (⟨([none, none, none, none, sI 0, sB false] ++ nn 23), [some (jC ((jB mx) :: (ints .u8 ds)) 50)]⟩) 1 from whole_loop_over mx ds e w hl hw hd c1))
      (oA (oS (show jT [jI 0, jB false] = jT [jI (capN (val (ds.take w))), jB (capB (val (ds.take w)))] from capE_neg c1)) <| oA (oV (D := (fun n => decide (1 ≤ n))) (jT [jI (capN (val (ds.take w))), jB (capB (val (ds.take w)))]) rfl) <| oA (oS (show jC ((jB mx) :: (ints .u8 ds)) 50 = jC ((jB mx) :: (ints .u8 ds)) 50 from rfl)) <| oS (show AvoidO (fun n => decide (1 ≤ n)) (jC ((jB mx) :: (ints .u8 ds)) 50) from AvoidO.cells (AvoidL.cons (Avoid.bool _ _) (AvoidL.ints _ _ _)))) (by kernel_rfl)
theorem val_split (l : List Int) (w : Nat) : val l = val (l.take w) * 10 ^ (l.length - w) + val (l.drop w) := by
  have := val_append (l.take w) (l.drop w)
  rwa [List.take_append_drop, List.length_drop] at this
theorem val_head {l : List Int} (h : 0 < l.length) : val l = l.getD 0 0 * 10 ^ (l.length - 1) + val (l.drop 1) := by
  cases l with
  | nil => simp at h
  | cons d l => rw [val_cons]; simp
def upB (n : Int) (l : List Int) : Bool := decide (5 * 10 ^ (l.length - 1) < val l ∨ (val l = 5 * 10 ^ (l.length - 1) ∧ n % 2 = 1))
theorem up_ne {n : Int} {l : List Int} (hd : Dig l) (h0 : 2 ≤ l.length) (c : ¬ l.getD 0 0 = 5) : AV.bool (decide (l.getD 0 0 > 5)) = AV.bool (upB n l) := by
  refine boolE (decide_eq_decide.2 ?_)
  have h1 := val_head (l := l) (by omega)
  have h2 := val_bounds _ (hd.drop 1)
  rw [List.length_drop] at h2
  rw [h1]
  generalize l.getD 0 0 = d at *
  generalize val (l.drop 1) = v at *
  have hp := pow_pos' (l.length - 1)
  generalize (10 : Int) ^ (l.length - 1) = p at *
  constructor
  · intro g
    have : 6 * p ≤ d * p := Int.mul_le_mul_of_nonneg_right (by omega) (by omega)
    left; omega
  · intro g
    rcases Int.lt_or_le 5 d with k | k
    · exact k
    · have : d * p ≤ 4 * p := Int.mul_le_mul_of_nonneg_right (by omega) (by omega)
      omega
theorem up_odd {n : Int} {l : List Int} (hd : Dig l) (h0 : 2 ≤ l.length) (c : l.getD 0 0 = 5) (c2 : n % 2 = 1) : AV.bool true = AV.bool (upB n l) := by
  refine boolE (Eq.symm (decide_eq_true ?_))
  have h1 := val_head (l := l) (by omega)
  have h2 := val_bounds _ (hd.drop 1)
  rw [h1, c]
  omega
theorem up_even {n : Int} {l : List Int} (hd : Dig l) (h0 : 2 ≤ l.length) (c : l.getD 0 0 = 5) (c2 : ¬ n % 2 = 1) : AV.bool (!decide (val (l.drop 1) = 0)) = AV.bool (upB n l) := by
  refine boolE ?_
  have h1 := val_head (l := l) (by omega)
  have h2 := val_bounds _ (hd.drop 1)
  rw [Bool.eq_iff_iff]
  simp only [upB, Bool.not_eq_true', decide_eq_false_iff_not, decide_eq_true_eq]
  rw [h1, c]
  omega
theorem fits_fig {m : AV} {ds us : List Int} {t off i : Nat} (r : List Nat) (ho : off = i + 1) (hu : (ds.drop i).take us.length = us) : Fits (.cells (m :: ints .u8 ds) t) (AObj.ren r (.ro off (ints .u8 us))) := by
  rw [show AObj.ren r (.ro off (ints .u8 us)) = .ro off (ints .u8 us) by simp only [AObj.ren, qzu]]
  refine Fits.ro (o0 := 0) rfl rfl (Nat.zero_le _) ?_
  rw [ho, Nat.sub_zero, List.drop_succ_cons, qyv]
  simp only [ints] at *
  rw [← List.map_drop, ← List.map_take, hu]
theorem fits_win {o o' i : Nat} {ds us : List Int} (r : List Nat) (ho : o' = o + i) (hu : (ds.drop i).take us.length = us) : Fits (.ro o (ints .u8 ds)) (AObj.ren r (.ro o' (ints .u8 us))) := by
  rw [show AObj.ren r (.ro o' (ints .u8 us)) = .ro o' (ints .u8 us) by simp only [AObj.ren, qzu]]
  refine Fits.ro (o0 := o) rfl rfl (by omega) ?_
  rw [show o' - o = i by omega, qyv]
  simp only [ints] at *
  rw [← List.map_drop, ← List.map_take, hu]
theorem goesUp_meets (n : Int) (l : List Int) (o c : Nat) (hn : 0 ≤ n) (hd : Dig l) (h0 : 2 ≤ l.length) (hc : l.length ≤ c) (hc2 : c < 1000) : Meets Try.prog 81 [jI n, AV.slice 0 o l.length c] [AObj.ro o (ints .u8 l)] (jB (upB n l)) [AObj.ro o (ints .u8 l)] := by
  have o1 := oA (oS (show 0 ≤ (0 : Int) from by decide)) <| oA (oS (show (0 : Int) < ((l.length : Nat) : Int) from by omega)) <| oA (oS (show AV.ptr 0 (o + Int.toNat (0 : Int) * 1) = jP 0 o from ptrE (by omega))) <| oA (oS (show o ≤ o from by omega)) <| oS (show (ints .u8 l : List AV)[o - o]? = some (jU (l.getD 0 0)) from ints_at [] (by simp only [List.length_nil, List.length_cons] <;> omega) (by omega))
  let q1 : List Orc := [rG []]
  by_cases c1 : (l.getD 0 0) = 5
  · have o2 := oA (oS (neF c1)) <| oA (oS (show (2 : Int) ≠ 0 from by decide)) <| oS (show AV.int .i64 (n.tmod 2) = jI (n % 2) from remI (by omega))
    let q2 : List Orc := [rG [hhV 1 (jP 0 o), hhV 2 (jU (l.getD 0 0)), hhB 3 false]]
    by_cases c2 : (n % 2) = 1
    · exact qzy (fn := Try.f81) 0 (q1 ++ (q2 ++ [rG [hhI 1 (n % 2), hhB 2 true]])) [{}] Try.func81 (by kernel_rfl) Try.call81
        (oA o1 <| oA o2 <| oS (eqT c2))
        (oA (oS (show jB true = jB (upB n l) from up_odd hd h0 c1 c2)) <| oA (oS (show AObj.ro o (ints .u8 l) = AObj.ro o (ints .u8 l) from rfl)) <| oS (show AvoidO (fun n => decide (1 ≤ n)) (AObj.ro o (ints .u8 l)) from AvoidO.ro (AvoidL.ints _ _ _))) (by kernel_rfl)
    · exact qzy (fn := Try.f81) 0 (q1 ++ (q2 ++ [rG [hhI 1 (n % 2), hhB 2 false, hhV 5 (AV.slice 0 (o + 1) (l.length - 1) (c - 1)), (6, {call := some ⟨[0], [AV.slice 0 (o + 1) ((l.drop 1).length) (c - 1)], [AObj.ro (o + 1) (ints .u8 (l.drop 1))], jB (decide (val (l.drop 1) = 0)), [AObj.ro (o + 1) (ints .u8 (l.drop 1))]⟩, obj := some [AObj.ro o (ints .u8 l)]})]])) [{}] Try.func81 (by kernel_rfl) Try.call81
        (oA o1 <| oA o2 <| oA (oS (eqF c2)) <| oA (oS (show 0 ≤ (1 : Int) from by omega)) <| oA (oS (show ((Int.toNat (1 : Int)) : Nat) ≤ l.length from by omega)) <| oA (oS (show (l.length : Nat) ≤ c from by omega)) <| oA (oS (show (c : Nat) ≤ c from by omega)) <| oA (oS (show AV.slice 0 (if c = (Int.toNat (1 : Int)) then o else o + (Int.toNat (1 : Int)) * 1) (l.length - (Int.toNat (1 : Int))) (c - (Int.toNat (1 : Int))) = AV.slice 0 (o + 1) (l.length - 1) (c - 1) from sliceE (by first | (split <;> omega) | (simp; omega) | simp) (by omega) (by omega))) <| oA (oS (show [AV.slice 0 (o + 1) (l.length - 1) (c - 1)] = renL [0] [AV.slice 0 (o + 1) ((l.drop 1).length) (c - 1)] from by simp only [renL, AV.ren, List.length_drop]; rfl)) <| oA (oS (show Meets Try.prog 59 [AV.slice 0 (o + 1) ((l.drop 1).length) (c - 1)] [AObj.ro (o + 1) (ints .u8 (l.drop 1))] (jB (decide (val (l.drop 1) = 0))) [AObj.ro (o + 1) (ints .u8 (l.drop 1))] from none_meets (l.drop 1) (o + 1) (c - 1) (by rw [List.length_drop]; omega) (by rw [List.length_drop]; omega) (hd.drop 1))) <| oA (oS (show Fits (AObj.ro o (ints .u8 l)) (AObj.ren [0] (AObj.ro (o + 1) (ints .u8 (l.drop 1)))) from fits_win _ rfl List.take_length)) <| oS (show updOf [0] [AObj.ro o (ints .u8 l)] [AObj.ro (o + 1) (ints .u8 (l.drop 1))] [AObj.ro (o + 1) (ints .u8 (l.drop 1))] ++ List.map (fun x => x.ren [0]) (List.drop 1 [AObj.ro (o + 1) (ints .u8 (l.drop 1))]) = [AObj.ro o (ints .u8 l)] from rfl))
        (oA (oS (show jB (!(decide (val (l.drop 1) = 0))) = jB (upB n l) from up_even hd h0 c1 c2)) <| oA (oS (show AObj.ro o (ints .u8 l) = AObj.ro o (ints .u8 l) from rfl)) <| oS (show AvoidO (fun n => decide (1 ≤ n)) (AObj.ro o (ints .u8 l)) from AvoidO.ro (AvoidL.ints _ _ _))) (by kernel_rfl)
  · exact qzy (fn := Try.f81) 0 (q1 ++ [rG [hhV 1 (jP 0 o), hhV 2 (jU (l.getD 0 0)), hhB 3 true], rG [hhV 1 (jP 0 o), hhV 2 (jU (l.getD 0 0))]]) [{}] Try.func81 (by kernel_rfl) Try.call81
      (oA o1 <| oA (oS (neT c1)) <| oA (oS (show 0 ≤ (0 : Int) from by decide)) <| oA (oS (show (0 : Int) < ((l.length : Nat) : Int) from by omega)) <| oA (oS (show AV.ptr 0 (o + Int.toNat (0 : Int) * 1) = jP 0 o from ptrE (by omega))) <| oA (oS (show o ≤ o from by omega)) <| oS (show (ints .u8 l : List AV)[o - o]? = some (jU (l.getD 0 0)) from ints_at [] (by simp only [List.length_nil, List.length_cons] <;> omega) (by omega)))
      (oA (oS (show jB (decide ((l.getD 0 0) > 5)) = jB (upB n l) from up_ne hd h0 c1)) <| oA (oS (show AObj.ro o (ints .u8 l) = AObj.ro o (ints .u8 l) from rfl)) <| oS (show AvoidO (fun n => decide (1 ≤ n)) (AObj.ro o (ints .u8 l)) from AvoidO.ro (AvoidL.ints _ _ _))) (by kernel_rfl)
theorem capE_pos' {n k : Int} (e : k = n) (h : n ≤ 999999999999999) : AV.tuple [.int .i64 n, .bool true] = AV.tuple [.int .i64 (capN k), .bool (capB k)] := by subst e; exact capE_pos h
def evenN (ds : List Int) (w : Nat) : Int := if upB (val (ds.take w)) (ds.drop w) = true then val (ds.take w) + 1 else val (ds.take w)
theorem evenN_ge (ds : List Int) (w : Nat) : val (ds.take w) ≤ evenN ds w ∧ evenN ds w ≤ val (ds.take w) + 1 := by unfold evenN; split <;> omega
theorem even_up {ds : List Int} {w : Nat} (h : upB (val (ds.take w)) (ds.drop w) = true) : evenN ds w = val (ds.take w) + 1 := by simp [evenN, h]
theorem even_dn {ds : List Int} {w : Nat} (h : ¬ upB (val (ds.take w)) (ds.drop w) = true) : evenN ds w = val (ds.take w) := by simp [evenN, h]
theorem even_meets (mx : Bool) (ds : List Int) (e : Int) (w : Nat) (hl : ds.length = 88) (hd : Dig ds) (he : -10 ≤ e ∧ e ≤ 10) (hw : 48 - e = w) : Meets Try.prog 66 [jP 0 0, jI e] [jC ((jB mx) :: (ints .u8 ds)) 50] (jT [jI (capN (evenN ds w)), jB (capB (evenN ds w))]) [jC ((jB mx) :: (ints .u8 ds)) 50] := by
  have hge := evenN_ge ds w
  have hb := (val_bounds _ (hd.take w)).1
  let q1 : List Orc := [rG []]
  by_cases c1 : val (ds.take w) ≤ 999999999999999
  · have o1 := oA (oS (show [jP 0 0, jI e] = renL [0] [jP 0 0, jI e] from rfl)) <| oA (oS (show Meets Try.prog 58 [jP 0 0, jI e] [jC ((jB mx) :: (ints .u8 ds)) 50] (jT [jI (capN (val (ds.take w))), jB (capB (val (ds.take w)))]) [jC ((jB mx) :: (ints .u8 ds)) 50] from whole_meets mx ds e w hl hd (by omega) hw)) <| oA (oS (show Fits (jC ((jB mx) :: (ints .u8 ds)) 50) (AObj.ren [0] (jC ((jB mx) :: (ints .u8 ds)) 50)) from Fits.of_eq (by simp only [AObj.ren, renL, AV.ren, qzu, qxy, qyx]))) <| oA (oS (show AV.ren [0] (jT [jI (capN (val (ds.take w))), jB (capB (val (ds.take w)))]) = jT [jI (val (ds.take w)), jB true] from cap_pos c1)) <| oA (oS (show updOf [0] [jC ((jB mx) :: (ints .u8 ds)) 50] [jC ((jB mx) :: (ints .u8 ds)) 50] [jC ((jB mx) :: (ints .u8 ds)) 50] ++ List.map (fun x => x.ren [0]) (List.drop 1 [jC ((jB mx) :: (ints .u8 ds)) 50]) = [jC ((jB mx) :: (ints .u8 ds)) 50] from by simp [updOf, AObj.owned, AObj.ren, renL, AV.ren, qzu, qxy, qyx])) <| oA (oS (show AV.bool (!true) = jB false from rfl)) <| oA (oW (48 - e) ((w : Nat) : Int) (by omega)) <| oA (oS (show 0 ≤ (((w : Nat) : Int) : Int) from by omega)) <| oA (oS (show ((Int.toNat (((w : Nat) : Int))) : Nat) ≤ 88 from by omega)) <| oA (oS (show (88 : Nat) ≤ 88 from by omega)) <| oA (oS (show (88 : Nat) ≤ 88 from by omega)) <| oA (oS (show AV.slice 0 (if 88 = (Int.toNat (((w : Nat) : Int))) then 1 else 1 + (Int.toNat (((w : Nat) : Int))) * 1) (88 - (Int.toNat (((w : Nat) : Int)))) (88 - (Int.toNat (((w : Nat) : Int)))) = AV.slice 0 (w + 1) (88 - w) (88 - w) from sliceE (by first | (split <;> omega) | (simp; omega) | simp) (by omega) (by omega))) <| oA (oS (show [jI (val (ds.take w)), AV.slice 0 (w + 1) (88 - w) (88 - w)] = renL [0] [jI (val (ds.take w)), AV.slice 0 (w + 1) ((ds.drop w).length) (88 - w)] from by simp only [renL, AV.ren, List.length_drop, hl]; rfl)) <| oA (oS (show Meets Try.prog 81 [jI (val (ds.take w)), AV.slice 0 (w + 1) ((ds.drop w).length) (88 - w)] [AObj.ro (w + 1) (ints .u8 (ds.drop w))] (jB (upB (val (ds.take w)) (ds.drop w))) [AObj.ro (w + 1) (ints .u8 (ds.drop w))] from goesUp_meets _ (ds.drop w) (w + 1) (88 - w) (val_bounds _ (hd.take w)).1 (hd.drop w) (by rw [List.length_drop]; omega) (by rw [List.length_drop]; omega) (by omega))) <| oS (show Fits (jC ((jB mx) :: (ints .u8 ds)) 50) (AObj.ren [0] (AObj.ro (w + 1) (ints .u8 (ds.drop w)))) from fits_fig _ rfl List.take_length)
    let q2 : List Orc := [rG [(2, {call := some ⟨[0], [jP 0 0, jI e], [jC ((jB mx) :: (ints .u8 ds)) 50], jT [jI (capN (val (ds.take w))), jB (capB (val (ds.take w)))], [jC ((jB mx) :: (ints .u8 ds)) 50]⟩, val := some (jT [jI (val (ds.take w)), jB true]), obj := some [jC ((jB mx) :: (ints .u8 ds)) 50]})], rG [hhB 1 false]]
    by_cases c2 : upB (val (ds.take w)) (ds.drop w) = true
    · have o2 := oA (oS (boolT c2)) <| oA (oS (show updOf [0] [jC ((jB mx) :: (ints .u8 ds)) 50] [AObj.ro (w + 1) (ints .u8 (ds.drop w))] [AObj.ro (w + 1) (ints .u8 (ds.drop w))] ++ List.map (fun x => x.ren [0]) (List.drop 1 [AObj.ro (w + 1) (ints .u8 (ds.drop w))]) = [jC ((jB mx) :: (ints .u8 ds)) 50] from rfl)) <| oWs ((val (ds.take w)) + 1) (by omega)
      let q3 : List Orc := [rG [hhI 5 ((w : Nat) : Int), hhV 6 (AV.slice 0 (w + 1) (88 - w) (88 - w)), (7, {call := some ⟨[0], [jI (val (ds.take w)), AV.slice 0 (w + 1) ((ds.drop w).length) (88 - w)], [AObj.ro (w + 1) (ints .u8 (ds.drop w))], jB (upB (val (ds.take w)) (ds.drop w)), [AObj.ro (w + 1) (ints .u8 (ds.drop w))]⟩, val := some (jB true), obj := some [jC ((jB mx) :: (ints .u8 ds)) 50]})], rG [hhI 1 ((val (ds.take w)) + 1)]]
      by_cases c3 : ((val (ds.take w)) + 1) > 999999999999999
      · exact qzy (fn := Try.f66) 0 (q1 ++ (q2 ++ (q3 ++ [rG [hhB 1 true], rG []]))) [{}, {}] Try.func66 (by kernel_rfl) Try.call66
          (oA o1 <| oA o2 <| oS (bT c3))
          (oA (oS (show jT [jI 0, jB false] = jT [jI (capN (evenN ds w)), jB (capB (evenN ds w))] from capE_neg (by first | omega | (have := even_up c2; omega)))) <| oA (oV (D := (fun n => decide (1 ≤ n))) (jT [jI (capN (evenN ds w)), jB (capB (evenN ds w))]) rfl) <| oA (oS (show jC ((jB mx) :: (ints .u8 ds)) 50 = jC ((jB mx) :: (ints .u8 ds)) 50 from rfl)) <| oS (show AvoidO (fun n => decide (1 ≤ n)) (jC ((jB mx) :: (ints .u8 ds)) 50) from AvoidO.cells (AvoidL.cons (Avoid.bool _ _) (AvoidL.ints _ _ _)))) (by kernel_rfl)
      · exact qzy (fn := Try.f66) 0 (q1 ++ (q2 ++ (q3 ++ [rG [hhB 1 false], rG []]))) [{}, {}] Try.func66 (by kernel_rfl) Try.call66
          (oA o1 <| oA o2 <| oS (bF c3))
          (oA (oS (show jT [jI ((val (ds.take w)) + 1), jB true] = jT [jI (capN (evenN ds w)), jB (capB (evenN ds w))] from capE_pos' (even_up c2) (by omega))) <| oA (oV (D := (fun n => decide (1 ≤ n))) (jT [jI (capN (evenN ds w)), jB (capB (evenN ds w))]) rfl) <| oA (oS (show jC ((jB mx) :: (ints .u8 ds)) 50 = jC ((jB mx) :: (ints .u8 ds)) 50 from rfl)) <| oS (show AvoidO (fun n => decide (1 ≤ n)) (jC ((jB mx) :: (ints .u8 ds)) 50) from AvoidO.cells (AvoidL.cons (Avoid.bool _ _) (AvoidL.ints _ _ _)))) (by kernel_rfl)
    · have o2 := oA (oS (boolF c2)) <| oS (show updOf [0] [jC ((jB mx) :: (ints .u8 ds)) 50] [AObj.ro (w + 1) (ints .u8 (ds.drop w))] [AObj.ro (w + 1) (ints .u8 (ds.drop w))] ++ List.map (fun x => x.ren [0]) (List.drop 1 [AObj.ro (w + 1) (ints .u8 (ds.drop w))]) = [jC ((jB mx) :: (ints .u8 ds)) 50] from rfl)
      let q3 : List Orc := [rG [hhI 5 ((w : Nat) : Int), hhV 6 (AV.slice 0 (w + 1) (88 - w) (88 - w)), (7, {call := some ⟨[0], [jI (val (ds.take w)), AV.slice 0 (w + 1) ((ds.drop w).length) (88 - w)], [AObj.ro (w + 1) (ints .u8 (ds.drop w))], jB (upB (val (ds.take w)) (ds.drop w)), [AObj.ro (w + 1) (ints .u8 (ds.drop w))]⟩, val := some (jB false), obj := some [jC ((jB mx) :: (ints .u8 ds)) 50]})]]
      by_cases c3 : (val (ds.take w)) > 999999999999999
      · exact qzy (fn := Try.f66) 0 (q1 ++ (q2 ++ (q3 ++ [rG [hhB 1 true], rG []]))) [{}, {}] Try.func66 (by kernel_rfl) Try.call66
          (oA o1 <| oA o2 <| oS (bT c3))
          (oA (oS (show jT [jI 0, jB false] = jT [jI (capN (evenN ds w)), jB (capB (evenN ds w))] from capE_neg (by first | omega | (have := even_up c2; omega)))) <| oA (oV (D := (fun n => decide (1 ≤ n))) (jT [jI (capN (evenN ds w)), jB (capB (evenN ds w))]) rfl) <| oA (oS (show jC ((jB mx) :: (ints .u8 ds)) 50 = jC ((jB mx) :: (ints .u8 ds)) 50 from rfl)) <| oS (show AvoidO (fun n => decide (1 ≤ n)) (jC ((jB mx) :: (ints .u8 ds)) 50) from AvoidO.cells (AvoidL.cons (Avoid.bool _ _) (AvoidL.ints _ _ _)))) (by kernel_rfl)
      · exact qzy (fn := Try.f66) 0 (q1 ++ (q2 ++ (q3 ++ [rG [hhB 1 false], rG []]))) [{}, {}] Try.func66 (by kernel_rfl) Try.call66
          (oA o1 <| oA o2 <| oS (bF c3))
          (oA (oS (show jT [jI (val (ds.take w)), jB true] = jT [jI (capN (evenN ds w)), jB (capB (evenN ds w))] from capE_pos' (even_dn c2) (by omega))) <| oA (oV (D := (fun n => decide (1 ≤ n))) (jT [jI (capN (evenN ds w)), jB (capB (evenN ds w))]) rfl) <| oA (oS (show jC ((jB mx) :: (ints .u8 ds)) 50 = jC ((jB mx) :: (ints .u8 ds)) 50 from rfl)) <| oS (show AvoidO (fun n => decide (1 ≤ n)) (jC ((jB mx) :: (ints .u8 ds)) 50) from AvoidO.cells (AvoidL.cons (Avoid.bool _ _) (AvoidL.ints _ _ _)))) (by kernel_rfl)
  · exact qzy (fn := Try.f66) 0 (q1 ++ [rG [(2, {call := some ⟨[0], [jP 0 0, jI e], [jC ((jB mx) :: (ints .u8 ds)) 50], jT [jI (capN (val (ds.take w))), jB (capB (val (ds.take w)))], [jC ((jB mx) :: (ints .u8 ds)) 50]⟩, val := some (jT [jI 0, jB false]), obj := some [jC ((jB mx) :: (ints .u8 ds)) 50]})], rG [hhB 1 true], rG []]) [{}, {}] Try.func66 (by kernel_rfl) Try.call66
      (oA (oS (show [jP 0 0, jI e] = renL [0] [jP 0 0, jI e] from rfl)) <| oA (oS (show Meets Try.prog 58 [jP 0 0, jI e] [jC ((jB mx) :: (ints .u8 ds)) 50] (jT [jI (capN (val (ds.take w))), jB (capB (val (ds.take w)))]) [jC ((jB mx) :: (ints .u8 ds)) 50] from whole_meets mx ds e w hl hd (by omega) hw)) <| oA (oS (show Fits (jC ((jB mx) :: (ints .u8 ds)) 50) (AObj.ren [0] (jC ((jB mx) :: (ints .u8 ds)) 50)) from Fits.of_eq (by simp only [AObj.ren, renL, AV.ren, qzu, qxy, qyx]))) <| oA (oS (show AV.ren [0] (jT [jI (capN (val (ds.take w))), jB (capB (val (ds.take w)))]) = jT [jI 0, jB false] from cap_neg c1)) <| oA (oS (show updOf [0] [jC ((jB mx) :: (ints .u8 ds)) 50] [jC ((jB mx) :: (ints .u8 ds)) 50] [jC ((jB mx) :: (ints .u8 ds)) 50] ++ List.map (fun x => x.ren [0]) (List.drop 1 [jC ((jB mx) :: (ints .u8 ds)) 50]) = [jC ((jB mx) :: (ints .u8 ds)) 50] from by simp [updOf, AObj.owned, AObj.ren, renL, AV.ren, qzu, qxy, qyx])) <| oS (show AV.bool (!false) = jB true from rfl))
      (oA (oS (show jT [jI 0, jB false] = jT [jI (capN (evenN ds w)), jB (capB (evenN ds w))] from capE_neg (by first | omega | (have := even_up c2; omega)))) <| oA (oV (D := (fun n => decide (1 ≤ n))) (jT [jI (capN (evenN ds w)), jB (capB (evenN ds w))]) rfl) <| oA (oS (show jC ((jB mx) :: (ints .u8 ds)) 50 = jC ((jB mx) :: (ints .u8 ds)) 50 from rfl)) <| oS (show AvoidO (fun n => decide (1 ≤ n)) (jC ((jB mx) :: (ints .u8 ds)) 50) from AvoidO.cells (AvoidL.cons (Avoid.bool _ _) (AvoidL.ints _ _ _)))) (by kernel_rfl)
def nearGo (ds : List Int) : Nat → Nat → Option (Int × Int)
  | 0, _ => none
  | f + 1, j => if evenN ds (57 - j) ≤ 999999999999999 then some (evenN ds (57 - j), (j : Int) - 9) else nearGo ds f (j + 1)
def nearM (mx : Bool) (ds : List Int) : Int × Int :=
  match nearGo ds 19 0 with
  | none => (0, 0)
  | some (n, e) => qzw (if mx = true then -n else n) e
def nearE (ds : List Int) : Int := if (nearGo ds 19 0).isNone then 10 else 0
def near_inv (mx : Bool) (ds : List Int) (e : Int) : AState :=
  ⟨([none, sP 0 0, sP 1 0, sI 0, sI e] ++ nn 21), [some (jC ((jB mx) :: (ints .u8 ds)) 50), some (jC [jI 0, jI 0] 23)]⟩
theorem near_round (mx : Bool) (ds : List Int) (e : Int) (w : Nat) (hl : ds.length = 88) (hd : Dig ds) (hw : 48 - e = w) (he : -9 ≤ e ∧ e ≤ 9) (h : ¬ evenN ds w ≤ 999999999999999) : Tri Try.prog (loopN (qzx Try.f32) 0) (near_inv mx ds e) .normal (near_inv mx ds (e + 1)) := by
  exact qxz [rG [hhB 1 true], rG [(1, {call := some ⟨[0], [jP 0 0, jI e], [jC ((jB mx) :: (ints .u8 ds)) 50], jT [jI (capN (evenN ds w)), jB (capB (evenN ds w))], [jC ((jB mx) :: (ints .u8 ds)) 50]⟩, val := some (jT [jI 0, jB false]), obj := some [jC ((jB mx) :: (ints .u8 ds)) 50]})], rG [hhB 1 true], rG [hhI 1 (e + 1)]]
    (oA (oS (show AV.bool (decide (e ≤ 9)) = jB true from bT (by omega))) <| oA (oS (show [jP 0 0, jI e] = renL [0] [jP 0 0, jI e] from rfl)) <| oA (oS (show Meets Try.prog 66 [jP 0 0, jI e] [jC ((jB mx) :: (ints .u8 ds)) 50] (jT [jI (capN (evenN ds w)), jB (capB (evenN ds w))]) [jC ((jB mx) :: (ints .u8 ds)) 50] from even_meets mx ds e w hl hd (by omega) hw)) <| oA (oS (show Fits (jC ((jB mx) :: (ints .u8 ds)) 50) (AObj.ren [0] (jC ((jB mx) :: (ints .u8 ds)) 50)) from Fits.of_eq (by simp only [AObj.ren, renL, AV.ren, qzu, qxy, qyx]))) <| oA (oS (show AV.ren [0] (jT [jI (capN (evenN ds w)), jB (capB (evenN ds w))]) = jT [jI 0, jB false] from cap_neg h)) <| oA (oS (show updOf [0] [jC ((jB mx) :: (ints .u8 ds)) 50] [jC ((jB mx) :: (ints .u8 ds)) 50] [jC ((jB mx) :: (ints .u8 ds)) 50] ++ List.map (fun x => x.ren [0]) (List.drop 1 [jC ((jB mx) :: (ints .u8 ds)) 50]) = [jC ((jB mx) :: (ints .u8 ds)) 50] from by simp [updOf, AObj.owned, AObj.ren, renL, AV.ren, qzu, qxy, qyx])) <| oA (oS (show AV.bool (!false) = jB true from rfl)) <| oWs (e + 1) (by omega))
    (oA (oR [jP 0 0, jP 1 0, jI 0, jI (e + 1)]) <| oQ [jC ((jB mx) :: (ints .u8 ds)) 50, jC [jI 0, jI 0] 23]) (by kernel_rfl)
def near_found (mx : Bool) (ds : List Int) (m e : Int) : AState :=
  ⟨([none, none, sP 1 0, sI 0] ++ nn 22), [some (jC ((jB mx) :: (ints .u8 ds)) 50), some (jC [jI m, jI e] 23)]⟩
theorem near_got (mx : Bool) (ds : List Int) (e : Int) (w : Nat) (hl : ds.length = 88) (hd : Dig ds) (hw : 48 - e = w) (he : -9 ≤ e ∧ e ≤ 9) (h : evenN ds w ≤ 999999999999999) : Tri Try.prog (loopN (qzx Try.f32) 0) (near_inv mx ds e) .ret (near_found mx ds (qzw (if mx = true then -evenN ds w else evenN ds w) e).1 (qzw (if mx = true then -evenN ds w else evenN ds w) e).2) := by
  have hge := evenN_ge ds w
  have hb := (val_bounds _ (hd.take w)).1
  have o1 := oA (oS (show AV.bool (decide (e ≤ 9)) = jB true from bT (by omega))) <| oA (oS (show [jP 0 0, jI e] = renL [0] [jP 0 0, jI e] from rfl)) <| oA (oS (show Meets Try.prog 66 [jP 0 0, jI e] [jC ((jB mx) :: (ints .u8 ds)) 50] (jT [jI (capN (evenN ds w)), jB (capB (evenN ds w))]) [jC ((jB mx) :: (ints .u8 ds)) 50] from even_meets mx ds e w hl hd (by omega) hw)) <| oA (oS (show Fits (jC ((jB mx) :: (ints .u8 ds)) 50) (AObj.ren [0] (jC ((jB mx) :: (ints .u8 ds)) 50)) from Fits.of_eq (by simp only [AObj.ren, renL, AV.ren, qzu, qxy, qyx]))) <| oA (oS (show AV.ren [0] (jT [jI (capN (evenN ds w)), jB (capB (evenN ds w))]) = jT [jI (evenN ds w), jB true] from cap_pos h)) <| oA (oS (show updOf [0] [jC ((jB mx) :: (ints .u8 ds)) 50] [jC ((jB mx) :: (ints .u8 ds)) 50] [jC ((jB mx) :: (ints .u8 ds)) 50] ++ List.map (fun x => x.ren [0]) (List.drop 1 [jC ((jB mx) :: (ints .u8 ds)) 50]) = [jC ((jB mx) :: (ints .u8 ds)) 50] from by simp [updOf, AObj.owned, AObj.ren, renL, AV.ren, qzu, qxy, qyx])) <| oS (show AV.bool (!true) = jB false from rfl)
  let q1 : List Orc := [rG [hhB 1 true], rG [(1, {call := some ⟨[0], [jP 0 0, jI e], [jC ((jB mx) :: (ints .u8 ds)) 50], jT [jI (capN (evenN ds w)), jB (capB (evenN ds w))], [jC ((jB mx) :: (ints .u8 ds)) 50]⟩, val := some (jT [jI (evenN ds w), jB true]), obj := some [jC ((jB mx) :: (ints .u8 ds)) 50]})], rG [hhB 1 false]]
  by_cases c3 : mx = true
  · exact qxz (q1 ++ [rG [hhB 1 true], rG [hhI 1 (-(evenN ds w))], rG [hhM 2 (trimmed_meets (-(evenN ds w)) e (by omega) (by omega)), (3, {obj := some [jC [jI ((qzw (-(evenN ds w)) e).1), jI ((qzw (-(evenN ds w)) e).2)] 23]})]])
      (oA o1 <| oA (oLf ((jB mx) :: (ints .u8 ds)) (0) (jB true) (atT (rfl) c3)) <| oA (oW (0 - (evenN ds w)) (-(evenN ds w)) (by omega)) <| oA (oC (trimmed_meets (-(evenN ds w)) e (by omega) (by omega)) rfl) <| oSw ([jI ((qzw (-(evenN ds w)) e).1), jI ((qzw (-(evenN ds w)) e).2)]) ([jI 0, jI 0]) 23 (rfl) (rfl))
      (oA (oR [jP 1 0, jI 0]) <| oA (oQ [jC ((jB mx) :: (ints .u8 ds)) 50]) <| oS (show jC [jI ((qzw (-(evenN ds w)) e).1), jI ((qzw (-(evenN ds w)) e).2)] 23 = jC [jI ((qzw (if mx = true then -evenN ds w else evenN ds w) e).1), jI ((qzw (if mx = true then -evenN ds w else evenN ds w) e).2)] 23 from by simp only [*, if_true, if_false, Bool.false_eq_true])) (by kernel_rfl)
  · exact qxz (q1 ++ [rG [hhB 1 false], rG [hhM 2 (trimmed_meets (evenN ds w) e (by omega) (by omega)), (3, {obj := some [jC [jI ((qzw (evenN ds w) e).1), jI ((qzw (evenN ds w) e).2)] 23]})]])
      (oA o1 <| oA (oLf ((jB mx) :: (ints .u8 ds)) (0) (jB false) (atF (rfl) c3)) <| oA (oC (trimmed_meets (evenN ds w) e (by omega) (by omega)) rfl) <| oSw ([jI ((qzw (evenN ds w) e).1), jI ((qzw (evenN ds w) e).2)]) ([jI 0, jI 0]) 23 (rfl) (rfl))
      (oA (oR [jP 1 0, jI 0]) <| oA (oQ [jC ((jB mx) :: (ints .u8 ds)) 50]) <| oS (show jC [jI ((qzw (evenN ds w) e).1), jI ((qzw (evenN ds w) e).2)] 23 = jC [jI ((qzw (if mx = true then -evenN ds w else evenN ds w) e).1), jI ((qzw (if mx = true then -evenN ds w else evenN ds w) e).2)] 23 from by simp only [*, if_true, if_false, Bool.false_eq_true])) (by kernel_rfl)
def near_lost (mx : Bool) (ds : List Int) : AState :=
  ⟨([none, none, sP 1 0] ++ nn 23), [some (jC ((jB mx) :: (ints .u8 ds)) 50), some (jC [jI 0, jI 0] 23)]⟩
theorem near_last (mx : Bool) (ds : List Int) (e : Int) (he : ¬ e ≤ 9) : Tri Try.prog (loopN (qzx Try.f32) 0) (near_inv mx ds e) (.exit 0) (near_lost mx ds) := by
  exact qxz [rG [hhB 1 false]]
    (oS (show AV.bool (decide (e ≤ 9)) = jB false from bF he))
    (oA (oR [jP 1 0]) <| oQ [jC ((jB mx) :: (ints .u8 ds)) 50, jC [jI 0, jI 0] 23]) (by kernel_rfl)
theorem near_loop_none (mx : Bool) (ds : List Int) (hl : ds.length = 88) (hd : Dig ds) (h : nearGo ds 19 0 = none) : Tri Try.prog (.loop (loopN (qzx Try.f32) 0)) (near_inv mx ds (-9)) (.exit 0) (near_lost mx ds) :=
  tri_loop (ι := {q : Nat × Nat // q.1 + q.2 = 19 ∧ nearGo ds q.1 q.2 = none}) (fun i => near_inv mx ds ((i.1.2 : Int) - 9)) (fun i => i.1.1) (ne_normal_exit 0) (by
    rintro ⟨⟨n, j⟩, hj, h⟩
    simp only at hj h
    cases n with
    | zero => exact .inr (near_last mx ds _ (by simp only; omega))
    | succ n =>
      rw [nearGo] at h
      split at h
      · cases h
      · rename_i hc
        refine .inl ⟨⟨(n, j + 1), by simp only; omega, h⟩, Nat.lt_succ_self n, ?_⟩
        have := near_round mx ds ((j : Int) - 9) (57 - j) hl hd (by omega) (by omega) hc
        rwa [show (j : Int) - 9 + 1 = ((j + 1 : Nat) : Int) - 9 by omega] at this) ⟨(19, 0), rfl, h⟩
theorem near_loop_some (mx : Bool) (ds : List Int) (hl : ds.length = 88) (hd : Dig ds) (N e : Int) (h : nearGo ds 19 0 = some (N, e)) : Tri Try.prog (.loop (loopN (qzx Try.f32) 0)) (near_inv mx ds (-9)) .ret (near_found mx ds (qzw (if mx = true then -N else N) e).1 (qzw (if mx = true then -N else N) e).2) :=
  tri_loop (ι := {q : Nat × Nat // q.1 + q.2 = 19 ∧ nearGo ds q.1 q.2 = some (N, e)}) (fun i => near_inv mx ds ((i.1.2 : Int) - 9)) (fun i => i.1.1) ne_normal_ret (by
    rintro ⟨⟨n, j⟩, hj, h⟩
    simp only at hj h
    cases n with
    | zero => cases h
    | succ n =>
      rw [nearGo] at h
      split at h
      · rename_i hc
        simp only [Option.some.injEq, Prod.mk.injEq] at h
        obtain ⟨rfl, rfl⟩ := h
        exact .inr (near_got mx ds ((j : Int) - 9) (57 - j) hl hd (by omega) (by omega) hc)
      · rename_i hc
        refine .inl ⟨⟨(n, j + 1), by simp only; omega, h⟩, Nat.lt_succ_self n, ?_⟩
        have := near_round mx ds ((j : Int) - 9) (57 - j) hl hd (by omega) (by omega) hc
        rwa [show (j : Int) - 9 + 1 = ((j + 1 : Nat) : Int) - 9 by omega] at this) ⟨(19, 0), rfl, h⟩
theorem nearE_none {ds : List Int} {mx : Bool} (h : nearGo ds 19 0 = none) : AV.tuple [AV.agg [AV.int .i64 0, AV.int .i64 0], AV.int .i64 10] = AV.tuple [AV.agg [AV.int .i64 (nearM mx ds).1, AV.int .i64 (nearM mx ds).2], AV.int .i64 (nearE ds)] := by simp [nearM, nearE, h]
theorem nearE_some {ds : List Int} {mx : Bool} {N e : Int} (h : nearGo ds 19 0 = some (N, e)) : AV.tuple [AV.agg [AV.int .i64 (qzw (if mx = true then -N else N) e).1, AV.int .i64 (qzw (if mx = true then -N else N) e).2], AV.int .i64 0] = AV.tuple [AV.agg [AV.int .i64 (nearM mx ds).1, AV.int .i64 (nearM mx ds).2], AV.int .i64 (nearE ds)] := by simp [nearM, nearE, h]
theorem nearest_none (mx : Bool) (ds : List Int) (hl : ds.length = 88) (hd : Dig ds) (h : nearGo ds 19 0 = none) : Meets Try.prog 32 [jA ((jB mx) :: (ints .u8 ds))] [] (jT [jA [jI ((nearM mx ds).1), jI ((nearM mx ds).2)], jI (nearE ds)]) [] := by
  exact qzy (fn := Try.f32) 2 [rG [hhN 0 0, hhN 1 1], rG [], .loop (⟨([none, sP 0 0, sP 1 0, sI 0, sI (-9)] ++ nn 21), [some (jC ((jB mx) :: (ints .u8 ds)) 50), some (jC [jI 0, jI 0] 23)]⟩) (.exit 0) (⟨([none, none, sP 1 0] ++ nn 23), [some (jC ((jB mx) :: (ints .u8 ds)) 50), some (jC [jI 0, jI 0] 23)]⟩), rG [(1, {obj := some [jC [jI 0, jI 0] 23]})]] [{val := some (jA [jI 0, jI 0])}, {}] Try.func32 (by kernel_rfl) Try.call32
    (oA (oR [jP 0 0, jP 1 0, jI 0, jI (-9)]) <| oA (oQ [jC ((jB mx) :: (ints .u8 ds)) 50, jC [jI 0, jI 0] 23]) <| oA (oS (show Tri Try.prog (.loop (loopN (qzx Try.f32) 0)) (⟨([none, sP 0 0, sP 1 0, sI 0, sI (-9)] ++ nn 21), [some (jC ((jB mx) :: (ints .u8 ds)) 50), some (jC [jI 0, jI 0] 23)]⟩) (.exit 0) (⟨([none, none, sP 1 0] ++ nn 23), [some (jC ((jB mx) :: (ints .u8 ds)) 50), some (jC [jI 0, jI 0] 23)]⟩) from near_loop_none mx ds hl hd h)) <| oSw ([jI 0, jI 0]) ([jI 0, jI 0]) 23 (rfl) (rfl))
    (oA (oLw ([jI 0, jI 0]) (rfl)) <| oA (oS (show jT [jA [jI 0, jI 0], jI 10] = jT [jA [jI ((nearM mx ds).1), jI ((nearM mx ds).2)], jI (nearE ds)] from nearE_none h)) <| oV (D := (fun n => decide (0 ≤ n))) (jT [jA [jI ((nearM mx ds).1), jI ((nearM mx ds).2)], jI (nearE ds)]) rfl) (by kernel_rfl)
theorem nearest_some (mx : Bool) (ds : List Int) (N e : Int) (hl : ds.length = 88) (hd : Dig ds) (h : nearGo ds 19 0 = some (N, e)) : Meets Try.prog 32 [jA ((jB mx) :: (ints .u8 ds))] [] (jT [jA [jI ((nearM mx ds).1), jI ((nearM mx ds).2)], jI (nearE ds)]) [] := by
  exact qzy (fn := Try.f32) 2 [rG [hhN 0 0, hhN 1 1], rG [], .loop (⟨([none, sP 0 0, sP 1 0, sI 0, sI (-9)] ++ nn 21), [some (jC ((jB mx) :: (ints .u8 ds)) 50), some (jC [jI 0, jI 0] 23)]⟩) .ret (⟨([none, none, sP 1 0, sI 0] ++ nn 22), [some (jC ((jB mx) :: (ints .u8 ds)) 50), some (jC [jI ((qzw (if mx = true then -N else N) e).1), jI ((qzw (if mx = true then -N else N) e).2)] 23)]⟩)] [{val := some (jA [jI ((qzw (if mx = true then -N else N) e).1), jI ((qzw (if mx = true then -N else N) e).2)])}, {}] Try.func32 (by kernel_rfl) Try.call32
    (oA (oR [jP 0 0, jP 1 0, jI 0, jI (-9)]) <| oA (oQ [jC ((jB mx) :: (ints .u8 ds)) 50, jC [jI 0, jI 0] 23]) <| oS (show Tri Try.prog (.loop (loopN (qzx Try.f32) 0)) (⟨([none, sP 0 0, sP 1 0, sI 0, sI (-9)] ++ nn 21), [some (jC ((jB mx) :: (ints .u8 ds)) 50), some (jC [jI 0, jI 0] 23)]⟩) .ret (⟨([none, none, sP 1 0, sI 0] ++ nn 22), [some (jC ((jB mx) :: (ints .u8 ds)) 50), some (jC [jI ((qzw (if mx = true then -N else N) e).1), jI ((qzw (if mx = true then -N else N) e).2)] 23)]⟩) from near_loop_some mx ds hl hd N e h))
    (oA (oLw ([jI ((qzw (if mx = true then -N else N) e).1), jI ((qzw (if mx = true then -N else N) e).2)]) (rfl)) <| oA (oS (show jT [jA [jI ((qzw (if mx = true then -N else N) e).1), jI ((qzw (if mx = true then -N else N) e).2)], jI 0] = jT [jA [jI ((nearM mx ds).1), jI ((nearM mx ds).2)], jI (nearE ds)] from nearE_some h)) <| oV (D := (fun n => decide (0 ≤ n))) (jT [jA [jI ((nearM mx ds).1), jI ((nearM mx ds).2)], jI (nearE ds)]) rfl) (by kernel_rfl)
theorem nearest_meets (mx : Bool) (ds : List Int) (hl : ds.length = 88) (hd : Dig ds) : Meets Try.prog 32 [AV.agg (AV.bool mx :: ints .u8 ds)] [] (jT [jA [jI ((nearM mx ds).1), jI ((nearM mx ds).2)], jI (nearE ds)]) [] := by
  cases h : nearGo ds 19 0 with
  | none => exact nearest_none mx ds hl hd h
  | some p => exact nearest_some mx ds p.1 p.2 hl hd h
end Go.Proofs.Ytmgiefeggkikcaa
namespace Go.Proofs.Ytmgiefeggkikcaa
open Go Sx Dc
def aV (m e : Int) : Int := ((m.natAbs : Nat) : Int) * 10 ^ (e + 40).toNat
def sV (m e : Int) : Int := m * 10 ^ (e + 40).toNat
theorem aV_bounds {m e : Int} (hm : -1000000000000000 < m ∧ m < 1000000000000000) (he : -18 ≤ e ∧ e ≤ 18) : 0 ≤ aV m e ∧ aV m e < 10 ^ 73 := by
  have a1 : (10 : Int) ^ (e + 40).toNat ≤ 10 ^ 58 := pow_mono (by omega)
  have hp := pow_pos' (e + 40).toNat
  have a2 : (m.natAbs : Int) * 10 ^ (e + 40).toNat ≤ (10 ^ 15 - 1) * 10 ^ 58 := Int.mul_le_mul (by omega) a1 (by omega) (by decide)
  have a3 : ((10 : Int) ^ 15 - 1) * 10 ^ 58 < 10 ^ 73 := by decide
  have a4 : 0 ≤ (m.natAbs : Int) * 10 ^ (e + 40).toNat := Int.mul_nonneg (by omega) (by omega)
  unfold aV; omega
theorem sV_neg {m e : Int} (h : m < 0) : sV m e = -aV m e := by
  unfold sV aV
  rw [show m = -((m.natAbs : Nat) : Int) by omega, Int.neg_mul]
  simp
theorem sV_pos {m e : Int} (h : ¬ m < 0) : sV m e = aV m e := by
  unfold sV aV
  rw [show ((m.natAbs : Nat) : Int) = m by omega]
def sumB (am ae bm be : Int) : Bool := if aV am ae < aV bm be then decide (bm < 0) else decide (am < 0)
def sumV (am ae bm be : Int) : Int := (((sV am ae + sV bm be).natAbs : Nat) : Int)
theorem cmp_digs {X Y : Int} (hX : 0 ≤ X ∧ X < 10 ^ 73) (hY : 0 ≤ Y ∧ Y < 10 ^ 73) : cmpI (digs 88 X) (digs 88 Y) < 0 ↔ X < Y := by
  have h73 : (10 : Int) ^ 73 ≤ 10 ^ 88 := by decide
  rw [cmpI_val _ _ (digs_dig _ _) (digs_dig _ _) (by rw [qyz, qyz]), val_digs _ _ hX.1 (by omega), val_digs _ _ hY.1 (by omega)]
  split
  · simp [*]
  · split <;> simp [*]
theorem sgn_sV (m e n f : Int) (hm : -1000000000000000 < m ∧ m < 1000000000000000) (he : -18 ≤ e ∧ e ≤ 18) (hn : -1000000000000000 < n ∧ n < 1000000000000000) (hf : -18 ≤ f ∧ f ≤ 18) (h : aV n f ≤ aV m e) :
    addArr (sgnOf (decide (m < 0)) (decide (n < 0))) (digs 88 (aV m e)) (digs 88 (aV n f)) 0 = digs 88 (((sV m e + sV n f).natAbs : Nat) : Int) := by
  have h73 : (10 : Int) ^ 73 + 10 ^ 73 ≤ 10 ^ 88 := by decide
  have hX := aV_bounds hm he
  have hY := aV_bounds hn hf
  generalize hp : (10 : Int) ^ 73 = p at *
  generalize hq : (10 : Int) ^ 88 = q at *
  have key : ∀ s : Int, (s = 1 ∨ s = -1) → (0 ≤ aV m e + s * aV n f ∧ aV m e + s * aV n f < q) → addArr s (digs 88 (aV m e)) (digs 88 (aV n f)) 0 = digs 88 (aV m e + s * aV n f) :=
    fun s hs hr => addArr_zero hs (by rw [hq]; omega) (by rw [hq]; omega) (by rw [hq]; exact hr)
  by_cases c1 : m < 0 <;> by_cases c2 : n < 0
  · rw [show sgnOf (decide (m < 0)) (decide (n < 0)) = 1 by simp [sgnOf, c1, c2], key 1 (.inl rfl) (by omega), sV_neg c1, sV_neg c2]
    congr 1; omega
  · rw [show sgnOf (decide (m < 0)) (decide (n < 0)) = -1 by simp [sgnOf, c1, c2], key (-1) (.inr rfl) (by omega), sV_neg c1, sV_pos c2]
    congr 1; omega
  · rw [show sgnOf (decide (m < 0)) (decide (n < 0)) = -1 by simp [sgnOf, c1, c2], key (-1) (.inr rfl) (by omega), sV_pos c1, sV_neg c2]
    congr 1; omega
  · rw [show sgnOf (decide (m < 0)) (decide (n < 0)) = 1 by simp [sgnOf, c1, c2], key 1 (.inl rfl) (by omega), sV_pos c1, sV_pos c2]
    congr 1; omega
theorem digs_aV (m e : Int) : digs 88 (((m.natAbs : Nat) : Int) * 10 ^ (e + 40).toNat) = digs 88 (aV m e) := rfl
attribute [irreducible] aV sV sumV
theorem compare_meets (xs ys : List Int) (o1 o2 k1 k2 : Nat) (hx : ∀ x ∈ xs, 0 ≤ x ∧ x < 256) (hy : ∀ y ∈ ys, 0 ≤ y ∧ y < 256) : Meets Try.prog 74 [AV.slice 0 o1 xs.length k1, AV.slice 1 o2 ys.length k2] [AObj.ro o1 (ints .u8 xs), AObj.ro o2 (ints .u8 ys)] (jI (cmpI xs ys)) [AObj.ro o1 (ints .u8 xs), AObj.ro o2 (ints .u8 ys)] := by
  exact qzy (fn := Try.f74) 0 [rG [], rG [(2, {call := some ⟨[0, 1], [AV.slice 0 o1 xs.length k1, AV.slice 1 o2 ys.length k2], [AObj.ro o1 (ints .u8 xs), AObj.ro o2 (ints .u8 ys)], jI (cmpI xs ys), [AObj.ro o1 (ints .u8 xs), AObj.ro o2 (ints .u8 ys)]⟩, obj := some [AObj.ro o1 (ints .u8 xs), AObj.ro o2 (ints .u8 ys)]})]] [{}] Try.func74 (by kernel_rfl) Try.call74
    (oA (oS (show [AV.slice 0 o1 xs.length k1, AV.slice 1 o2 ys.length k2] = renL [0, 1] [AV.slice 0 o1 xs.length k1, AV.slice 1 o2 ys.length k2] from rfl)) <| oA (oS (show Meets Try.prog 82 [AV.slice 0 o1 xs.length k1, AV.slice 1 o2 ys.length k2] [AObj.ro o1 (ints .u8 xs), AObj.ro o2 (ints .u8 ys)] (jI (cmpI xs ys)) [AObj.ro o1 (ints .u8 xs), AObj.ro o2 (ints .u8 ys)] from meets_bytealg_compare (fn := Try.f82) Try.func82 (by kernel_rfl) (by kernel_rfl) (by kernel_rfl) (by kernel_rfl) xs ys o1 o2 k1 k2 hx hy)) <| oA (oS (show Fits (AObj.ro o1 (ints .u8 xs)) (AObj.ren [0, 1] (AObj.ro o1 (ints .u8 xs))) from Fits.of_eq (by simp only [AObj.ren, renL, AV.ren, qzu, qxy, qyx]))) <| oA (oS (show Fits (AObj.ro o2 (ints .u8 ys)) (AObj.ren [0, 1] (AObj.ro o2 (ints .u8 ys))) from Fits.of_eq (by simp only [AObj.ren, renL, AV.ren, qzu, qxy, qyx]))) <| oS (show updOf [0, 1] [AObj.ro o1 (ints .u8 xs), AObj.ro o2 (ints .u8 ys)] [AObj.ro o1 (ints .u8 xs), AObj.ro o2 (ints .u8 ys)] [AObj.ro o1 (ints .u8 xs), AObj.ro o2 (ints .u8 ys)] ++ List.map (fun x => x.ren [0, 1]) (List.drop 2 [AObj.ro o1 (ints .u8 xs), AObj.ro o2 (ints .u8 ys)]) = [AObj.ro o1 (ints .u8 xs), AObj.ro o2 (ints .u8 ys)] from rfl))
    (oA (oS (@rfl _ (jI (cmpI xs ys)))) <| oA (oS (show AObj.ro o1 (ints .u8 xs) = AObj.ro o1 (ints .u8 xs) from rfl)) <| oA (oS (show AvoidO (fun n => decide (2 ≤ n)) (AObj.ro o1 (ints .u8 xs)) from AvoidO.ro (AvoidL.ints _ _ _))) <| oA (oS (show AObj.ro o2 (ints .u8 ys) = AObj.ro o2 (ints .u8 ys) from rfl)) <| oS (show AvoidO (fun n => decide (2 ≤ n)) (AObj.ro o2 (ints .u8 ys)) from AvoidO.ro (AvoidL.ints _ _ _))) (by kernel_rfl)
theorem sum_meets (am ae bm be : Int) (ham : -1000000000000000 < am ∧ am < 1000000000000000) (hae : -18 ≤ ae ∧ ae ≤ 18) (hbm : -1000000000000000 < bm ∧ bm < 1000000000000000) (hbe : -18 ≤ be ∧ be ≤ 18) : Meets Try.prog 54 [jA [jI am, jI ae, jI bm, jI be]] [] (jA ((jB (sumB am ae bm be)) :: (ints .u8 (digs 88 (sumV am ae bm be))))) [] := by
  have hx := aV_bounds ham hae
  have hy := aV_bounds hbm hbe
  have o1 := oA (oS (show AObj.cells (zeroCellsA Try.prog 50) 50 = jC ((jB false) :: (ints .u8 (List.replicate 88 0))) 50 from by kernel_rfl)) <| oA (oLp ([jI am, jI ae, jI bm, jI be]) 0 2 ([jI am, jI ae]) rfl rfl) <| oA (oC (show Meets Try.prog 33 [jA [jI am, jI ae]] [] (jA ((jB (decide (am < 0))) :: (ints .u8 (digs 88 (aV am ae))))) [] from lay_meets am ae _ (by omega) (by omega) (digs_aV _ _)) rfl) <| oA (oS (show AV.ren [] (jA ((jB (decide (am < 0))) :: (ints .u8 (digs 88 (aV am ae))))) = jA ((jB (decide (am < 0))) :: (ints .u8 (digs 88 (aV am ae)))) from by simp only [renL, AV.ren, qzu, qxy, qyx])) <| oA (oLp ([jI am, jI ae, jI bm, jI be]) 2 2 ([jI bm, jI be]) rfl rfl) <| oA (oC (show Meets Try.prog 33 [jA [jI bm, jI be]] [] (jA ((jB (decide (bm < 0))) :: (ints .u8 (digs 88 (aV bm be))))) [] from lay_meets bm be _ (by omega) (by omega) (digs_aV _ _)) rfl) <| oA (oS (show AV.ren [] (jA ((jB (decide (bm < 0))) :: (ints .u8 (digs 88 (aV bm be))))) = jA ((jB (decide (bm < 0))) :: (ints .u8 (digs 88 (aV bm be)))) from by simp only [renL, AV.ren, qzu, qxy, qyx])) <| oA (oS (show AObj.cells (zeroCellsA Try.prog 50) 50 = jC ((jB false) :: (ints .u8 (List.replicate 88 0))) 50 from by kernel_rfl)) <| oA (oS (show AObj.cells (zeroCellsA Try.prog 50) 50 = jC ((jB false) :: (ints .u8 (List.replicate 88 0))) 50 from by kernel_rfl)) <| oA (oSw (n := 89) ((jB (decide (am < 0))) :: (ints .u8 (digs 88 (aV am ae)))) ((jB false) :: (ints .u8 (List.replicate 88 0))) 50 lnO lnO) <| oA (oSw (n := 89) ((jB (decide (bm < 0))) :: (ints .u8 (digs 88 (aV bm be)))) ((jB false) :: (ints .u8 (List.replicate 88 0))) 50 lnO lnO) <| oA (oS (show (0 : Nat) ≤ 88 from by omega)) <| oA (oS (show (88 : Nat) ≤ 88 from by omega)) <| oA (oS (show (88 : Nat) ≤ 88 from by omega)) <| oA (oS (show AV.slice 2 (if 88 = 0 then 1 else 1 + 0 * 1) (88 - 0) (88 - 0) = AV.slice 2 1 88 88 from by kernel_rfl)) <| oA (oS (show (0 : Nat) ≤ 88 from by omega)) <| oA (oS (show (88 : Nat) ≤ 88 from by omega)) <| oA (oS (show (88 : Nat) ≤ 88 from by omega)) <| oA (oS (show AV.slice 3 (if 88 = 0 then 1 else 1 + 0 * 1) (88 - 0) (88 - 0) = AV.slice 3 1 88 88 from by kernel_rfl)) <| oA (oS (show [AV.slice 2 1 88 88, AV.slice 3 1 88 88] = renL [2, 3] [AV.slice 0 1 ((digs 88 (aV am ae)).length) 88, AV.slice 1 1 ((digs 88 (aV bm be)).length) 88] from by simp only [renL, AV.ren, qyz]; rfl)) <| oA (oS (show Meets Try.prog 74 [AV.slice 0 1 ((digs 88 (aV am ae)).length) 88, AV.slice 1 1 ((digs 88 (aV bm be)).length) 88] [AObj.ro 1 (ints .u8 (digs 88 (aV am ae))), AObj.ro 1 (ints .u8 (digs 88 (aV bm be)))] (jI (cmpI (digs 88 (aV am ae)) (digs 88 (aV bm be)))) [AObj.ro 1 (ints .u8 (digs 88 (aV am ae))), AObj.ro 1 (ints .u8 (digs 88 (aV bm be)))] from compare_meets _ _ 1 1 88 88 (Dig.u8 (digs_dig _ _)) (Dig.u8 (digs_dig _ _)))) <| oA (oS (show Fits (jC ((jB (decide (am < 0))) :: (ints .u8 (digs 88 (aV am ae)))) 50) (AObj.ren [2, 3] (AObj.ro 1 (ints .u8 (digs 88 (aV am ae))))) from fits_fig (i := 0) _ rfl (by rw [List.drop_zero, List.take_length]))) <| oA (oS (show Fits (jC ((jB (decide (bm < 0))) :: (ints .u8 (digs 88 (aV bm be)))) 50) (AObj.ren [2, 3] (AObj.ro 1 (ints .u8 (digs 88 (aV bm be))))) from fits_fig (i := 0) _ rfl (by rw [List.drop_zero, List.take_length]))) <| oS (show updOf [2, 3] [jC ((jB (decide (am < 0))) :: (ints .u8 (digs 88 (aV am ae)))) 50, jC ((jB (decide (bm < 0))) :: (ints .u8 (digs 88 (aV bm be)))) 50] [AObj.ro 1 (ints .u8 (digs 88 (aV am ae))), AObj.ro 1 (ints .u8 (digs 88 (aV bm be)))] [AObj.ro 1 (ints .u8 (digs 88 (aV am ae))), AObj.ro 1 (ints .u8 (digs 88 (aV bm be)))] ++ List.map (fun x => x.ren [2, 3]) (List.drop 2 [AObj.ro 1 (ints .u8 (digs 88 (aV am ae))), AObj.ro 1 (ints .u8 (digs 88 (aV bm be)))]) = [jC ((jB (decide (am < 0))) :: (ints .u8 (digs 88 (aV am ae)))) 50, jC ((jB (decide (bm < 0))) :: (ints .u8 (digs 88 (aV bm be)))) 50] from rfl)
  let q1 : List Orc := [rG [hhN 0 0, (1, {nm := [1], obj := some [jC ((jB false) :: (ints .u8 (List.replicate 88 0))) 50]})], rG [hhV 1 (jA [jI am, jI ae]), (2, {call := some ⟨[], [jA [jI am, jI ae]], [], jA ((jB (decide (am < 0))) :: (ints .u8 (digs 88 (aV am ae)))), []⟩, val := some (jA ((jB (decide (am < 0))) :: (ints .u8 (digs 88 (aV am ae)))))}), hhV 4 (jA [jI bm, jI be]), (5, {call := some ⟨[], [jA [jI bm, jI be]], [], jA ((jB (decide (bm < 0))) :: (ints .u8 (digs 88 (aV bm be)))), []⟩, val := some (jA ((jB (decide (bm < 0))) :: (ints .u8 (digs 88 (aV bm be)))))}), (6, {nm := [2], obj := some [jC ((jB false) :: (ints .u8 (List.replicate 88 0))) 50]}), (7, {nm := [3], obj := some [jC ((jB false) :: (ints .u8 (List.replicate 88 0))) 50]}), (8, {obj := some [jC ((jB (decide (am < 0))) :: (ints .u8 (digs 88 (aV am ae)))) 50]}), (9, {obj := some [jC ((jB (decide (bm < 0))) :: (ints .u8 (digs 88 (aV bm be)))) 50]})]]
  by_cases c1 : (cmpI (digs 88 (aV am ae)) (digs 88 (aV bm be))) < 0
  · exact qzy (fn := Try.f54) 4 (q1 ++ [rG [hhV 1 (AV.slice 2 1 88 88), hhV 3 (AV.slice 3 1 88 88), (4, {call := some ⟨[2, 3], [AV.slice 0 1 ((digs 88 (aV am ae)).length) 88, AV.slice 1 1 ((digs 88 (aV bm be)).length) 88], [AObj.ro 1 (ints .u8 (digs 88 (aV am ae))), AObj.ro 1 (ints .u8 (digs 88 (aV bm be)))], jI (cmpI (digs 88 (aV am ae)) (digs 88 (aV bm be))), [AObj.ro 1 (ints .u8 (digs 88 (aV am ae))), AObj.ro 1 (ints .u8 (digs 88 (aV bm be)))]⟩, obj := some [jC ((jB (decide (am < 0))) :: (ints .u8 (digs 88 (aV am ae)))) 50, jC ((jB (decide (bm < 0))) :: (ints .u8 (digs 88 (aV bm be)))) 50]}), hhB 5 true], rG [hhV 0 (jA ((jB (decide (bm < 0))) :: (ints .u8 (digs 88 (aV bm be))))), hhV 1 (jA ((jB (decide (am < 0))) :: (ints .u8 (digs 88 (aV am ae))))), (2, {call := some ⟨[], [jA ((jB (decide (bm < 0))) :: (ints .u8 (digs 88 (aV bm be)))), jA ((jB (decide (am < 0))) :: (ints .u8 (digs 88 (aV am ae))))], [], jA ((jB (decide (bm < 0))) :: (ints .u8 (digs 88 (sumV am ae bm be)))), []⟩, val := some (jA ((jB (decide (bm < 0))) :: (ints .u8 (digs 88 (sumV am ae bm be)))))}), (3, {obj := some [jC ((jB (decide (bm < 0))) :: (ints .u8 (digs 88 (sumV am ae bm be)))) 50]})]]) [{val := some (jA ((jB (decide (bm < 0))) :: (ints .u8 (digs 88 (sumV am ae bm be)))))}] Try.func54 (by kernel_rfl) Try.call54
      (oA o1 <| oA (oS (bT c1)) <| oA (oLw (n := 89) ((jB (decide (bm < 0))) :: (ints .u8 (digs 88 (aV bm be)))) lnO) <| oA (oLw (n := 89) ((jB (decide (am < 0))) :: (ints .u8 (digs 88 (aV am ae)))) lnO) <| oA (oS (show [jA ((jB (decide (bm < 0))) :: (ints .u8 (digs 88 (aV bm be)))), jA ((jB (decide (am < 0))) :: (ints .u8 (digs 88 (aV am ae))))] = renL [] [jA ((jB (decide (bm < 0))) :: (ints .u8 (digs 88 (aV bm be)))), jA ((jB (decide (am < 0))) :: (ints .u8 (digs 88 (aV am ae))))] from by simp only [renL, AV.ren, qzu, qxy, qyx])) <| oA (oS (show Meets Try.prog 60 [jA ((jB (decide (bm < 0))) :: (ints .u8 (digs 88 (aV bm be)))), jA ((jB (decide (am < 0))) :: (ints .u8 (digs 88 (aV am ae))))] [] (jA ((jB (decide (bm < 0))) :: (ints .u8 (digs 88 (sumV am ae bm be))))) [] from added_meets (decide (bm < 0)) (decide (am < 0)) _ _ (digs_dig _ _) (digs_dig _ _) (qyz _ _) (qyz _ _) _ (by rw [sumV, Int.add_comm]; exact sgn_sV bm be am ae hbm hbe ham hae (Int.le_of_lt ((cmp_digs hx hy).1 c1))))) <| oA (oS (show AV.ren [] (jA ((jB (decide (bm < 0))) :: (ints .u8 (digs 88 (sumV am ae bm be))))) = jA ((jB (decide (bm < 0))) :: (ints .u8 (digs 88 (sumV am ae bm be)))) from by simp only [renL, AV.ren, qzu, qxy, qyx])) <| oSw (n := 89) ((jB (decide (bm < 0))) :: (ints .u8 (digs 88 (sumV am ae bm be)))) ((jB false) :: (ints .u8 (List.replicate 88 0))) 50 lnO lnO)
      (oA (oLw (n := 89) ((jB (decide (bm < 0))) :: (ints .u8 (digs 88 (sumV am ae bm be)))) lnO) <| oA (oS (show jA ((jB (decide (bm < 0))) :: (ints .u8 (digs 88 (sumV am ae bm be)))) = jA ((jB (sumB am ae bm be)) :: (ints .u8 (digs 88 (sumV am ae bm be)))) from by rw [show sumB am ae bm be = decide (bm < 0) by simp only [sumB, cmp_digs hx hy] at c1 ⊢; simp only [c1, if_true, if_false]])) <| oS (show Avoid (fun n => decide (0 ≤ n)) (jA ((jB (sumB am ae bm be)) :: (ints .u8 (digs 88 (sumV am ae bm be))))) from Avoid.agg (AvoidL.cons (Avoid.bool _ _) (AvoidL.ints _ _ _)))) (by kernel_rfl)
  · exact qzy (fn := Try.f54) 4 (q1 ++ [rG [hhV 1 (AV.slice 2 1 88 88), hhV 3 (AV.slice 3 1 88 88), (4, {call := some ⟨[2, 3], [AV.slice 0 1 ((digs 88 (aV am ae)).length) 88, AV.slice 1 1 ((digs 88 (aV bm be)).length) 88], [AObj.ro 1 (ints .u8 (digs 88 (aV am ae))), AObj.ro 1 (ints .u8 (digs 88 (aV bm be)))], jI (cmpI (digs 88 (aV am ae)) (digs 88 (aV bm be))), [AObj.ro 1 (ints .u8 (digs 88 (aV am ae))), AObj.ro 1 (ints .u8 (digs 88 (aV bm be)))]⟩, obj := some [jC ((jB (decide (am < 0))) :: (ints .u8 (digs 88 (aV am ae)))) 50, jC ((jB (decide (bm < 0))) :: (ints .u8 (digs 88 (aV bm be)))) 50]}), hhB 5 false], rG [hhV 0 (jA ((jB (decide (am < 0))) :: (ints .u8 (digs 88 (aV am ae))))), hhV 1 (jA ((jB (decide (bm < 0))) :: (ints .u8 (digs 88 (aV bm be))))), (2, {call := some ⟨[], [jA ((jB (decide (am < 0))) :: (ints .u8 (digs 88 (aV am ae)))), jA ((jB (decide (bm < 0))) :: (ints .u8 (digs 88 (aV bm be))))], [], jA ((jB (decide (am < 0))) :: (ints .u8 (digs 88 (sumV am ae bm be)))), []⟩, val := some (jA ((jB (decide (am < 0))) :: (ints .u8 (digs 88 (sumV am ae bm be)))))}), (3, {obj := some [jC ((jB (decide (am < 0))) :: (ints .u8 (digs 88 (sumV am ae bm be)))) 50]})]]) [{val := some (jA ((jB (decide (am < 0))) :: (ints .u8 (digs 88 (sumV am ae bm be)))))}] Try.func54 (by kernel_rfl) Try.call54
      (oA o1 <| oA (oS (bF c1)) <| oA (oLw (n := 89) ((jB (decide (am < 0))) :: (ints .u8 (digs 88 (aV am ae)))) lnO) <| oA (oLw (n := 89) ((jB (decide (bm < 0))) :: (ints .u8 (digs 88 (aV bm be)))) lnO) <| oA (oS (show [jA ((jB (decide (am < 0))) :: (ints .u8 (digs 88 (aV am ae)))), jA ((jB (decide (bm < 0))) :: (ints .u8 (digs 88 (aV bm be))))] = renL [] [jA ((jB (decide (am < 0))) :: (ints .u8 (digs 88 (aV am ae)))), jA ((jB (decide (bm < 0))) :: (ints .u8 (digs 88 (aV bm be))))] from by simp only [renL, AV.ren, qzu, qxy, qyx])) <| oA (oS (show Meets Try.prog 60 [jA ((jB (decide (am < 0))) :: (ints .u8 (digs 88 (aV am ae)))), jA ((jB (decide (bm < 0))) :: (ints .u8 (digs 88 (aV bm be))))] [] (jA ((jB (decide (am < 0))) :: (ints .u8 (digs 88 (sumV am ae bm be))))) [] from added_meets (decide (am < 0)) (decide (bm < 0)) _ _ (digs_dig _ _) (digs_dig _ _) (qyz _ _) (qyz _ _) _ (by rw [sumV]; exact sgn_sV am ae bm be ham hae hbm hbe (Int.not_lt.1 fun h => c1 ((cmp_digs hx hy).2 h))))) <| oA (oS (show AV.ren [] (jA ((jB (decide (am < 0))) :: (ints .u8 (digs 88 (sumV am ae bm be))))) = jA ((jB (decide (am < 0))) :: (ints .u8 (digs 88 (sumV am ae bm be)))) from by simp only [renL, AV.ren, qzu, qxy, qyx])) <| oSw (n := 89) ((jB (decide (am < 0))) :: (ints .u8 (digs 88 (sumV am ae bm be)))) ((jB false) :: (ints .u8 (List.replicate 88 0))) 50 lnO lnO)
      (oA (oLw (n := 89) ((jB (decide (am < 0))) :: (ints .u8 (digs 88 (sumV am ae bm be)))) lnO) <| oA (oS (show jA ((jB (decide (am < 0))) :: (ints .u8 (digs 88 (sumV am ae bm be)))) = jA ((jB (sumB am ae bm be)) :: (ints .u8 (digs 88 (sumV am ae bm be)))) from by rw [show sumB am ae bm be = decide (am < 0) by simp only [sumB, cmp_digs hx hy] at c1 ⊢; simp only [c1, if_true, if_false]])) <| oS (show Avoid (fun n => decide (0 ≤ n)) (jA ((jB (sumB am ae bm be)) :: (ints .u8 (digs 88 (sumV am ae bm be))))) from Avoid.agg (AvoidL.cons (Avoid.bool _ _) (AvoidL.ints _ _ _)))) (by kernel_rfl)
end Go.Proofs.Ytmgiefeggkikcaa
namespace Go.Proofs.Ytmgiefeggkikcaa
open Go Sx Dc
theorem difference_meets (am ae bm be : Int) (ham : -1000000000000000 < am ∧ am < 1000000000000000) (hae : -9 ≤ ae ∧ ae ≤ 9) (hbm : -1000000000000000 < bm ∧ bm < 1000000000000000) (hbe : -9 ≤ be ∧ be ≤ 9) : Meets Try.prog 56 [jA [jI am, jI ae, jI bm, jI be]] [] (jA ((jB (sumB am ae (-bm) be)) :: (ints .u8 (digs 88 (sumV am ae (-bm) be))))) [] := by
  exact qzy (fn := Try.f56) 2 [rG [hhN 0 0, (1, {nm := [1], obj := some [jC ((jB false) :: (ints .u8 (List.replicate 88 0))) 50]})], rG [hhV 1 (jA [jI am, jI ae]), hhI 4 bm, hhI 5 (-bm), hhI 8 be, hhV 9 (jA [jI (-bm), jI be]), hhV 10 (jA [jI am, jI ae, jI (-bm), jI be]), (11, {call := some ⟨[], [jA [jI am, jI ae, jI (-bm), jI be]], [], jA ((jB (sumB am ae (-bm) be)) :: (ints .u8 (digs 88 (sumV am ae (-bm) be)))), []⟩, val := some (jA ((jB (sumB am ae (-bm) be)) :: (ints .u8 (digs 88 (sumV am ae (-bm) be)))))}), (12, {obj := some [jC ((jB (sumB am ae (-bm) be)) :: (ints .u8 (digs 88 (sumV am ae (-bm) be)))) 50]})]] [{val := some (jA ((jB (sumB am ae (-bm) be)) :: (ints .u8 (digs 88 (sumV am ae (-bm) be)))))}] Try.func56 (by kernel_rfl) Try.call56
    (oA (oS (show AObj.cells (zeroCellsA Try.prog 50) 50 = jC ((jB false) :: (ints .u8 (List.replicate 88 0))) 50 from by kernel_rfl)) <| oA (oLp ([jI am, jI ae, jI bm, jI be]) 0 2 ([jI am, jI ae]) rfl rfl) <| oA (oLf ([jI am, jI ae, jI bm, jI be]) (2) (jI bm) (rfl)) <| oA (oW (0 - bm) (-bm) (by omega)) <| oA (oLf ([jI am, jI ae, jI bm, jI be]) (3) (jI be) (rfl)) <| oA (oS (show ([jI (-bm)] : List AV).length = 1 from rfl)) <| oA (oS (show 0 + 1 ≤ ([jI 0, jI 0] : List AV).length from Nat.le_of_ble_eq_true (by kernel_rfl))) <| oA (oS (show ([jI be] : List AV).length = 1 from rfl)) <| oA (oS (show 1 + 1 ≤ (List.take 0 [jI 0, jI 0] ++ [jI (-bm)] ++ List.drop 1 [jI 0, jI 0] : List AV).length from Nat.le_of_ble_eq_true (by kernel_rfl))) <| oA (oS (show AV.agg (List.take 1 (List.take 0 [jI 0, jI 0] ++ [jI (-bm)] ++ List.drop 1 [jI 0, jI 0]) ++ [jI be] ++ List.drop 2 (List.take 0 [jI 0, jI 0] ++ [jI (-bm)] ++ List.drop 1 [jI 0, jI 0])) = jA [jI (-bm), jI be] from by kernel_rfl)) <| oA (oS (show ([jI am, jI ae] : List AV).length = 2 from rfl)) <| oA (oS (show 0 + 2 ≤ ([jI 0, jI 0, jI 0, jI 0] : List AV).length from Nat.le_of_ble_eq_true (by kernel_rfl))) <| oA (oS (show ([jI (-bm), jI be] : List AV).length = 2 from rfl)) <| oA (oS (show 2 + 2 ≤ (List.take 0 [jI 0, jI 0, jI 0, jI 0] ++ [jI am, jI ae] ++ List.drop 2 [jI 0, jI 0, jI 0, jI 0] : List AV).length from Nat.le_of_ble_eq_true (by kernel_rfl))) <| oA (oS (show AV.agg (List.take 2 (List.take 0 [jI 0, jI 0, jI 0, jI 0] ++ [jI am, jI ae] ++ List.drop 2 [jI 0, jI 0, jI 0, jI 0]) ++ [jI (-bm), jI be] ++ List.drop 4 (List.take 0 [jI 0, jI 0, jI 0, jI 0] ++ [jI am, jI ae] ++ List.drop 2 [jI 0, jI 0, jI 0, jI 0])) = jA [jI am, jI ae, jI (-bm), jI be] from by kernel_rfl)) <| oA (oC (sum_meets am ae (-bm) be ham (by omega) (by omega) (by omega)) rfl) <| oA (oS (show AV.ren [] (jA ((jB (sumB am ae (-bm) be)) :: (ints .u8 (digs 88 (sumV am ae (-bm) be))))) = jA ((jB (sumB am ae (-bm) be)) :: (ints .u8 (digs 88 (sumV am ae (-bm) be)))) from by simp only [renL, AV.ren, qzu, qxy, qyx])) <| oSw (n := 89) ((jB (sumB am ae (-bm) be)) :: (ints .u8 (digs 88 (sumV am ae (-bm) be)))) ((jB false) :: (ints .u8 (List.replicate 88 0))) 50 lnO lnO)
    (oA (oLw (n := 89) ((jB (sumB am ae (-bm) be)) :: (ints .u8 (digs 88 (sumV am ae (-bm) be)))) lnO) <| oA (oS (@rfl _ (jA ((jB (sumB am ae (-bm) be)) :: (ints .u8 (digs 88 (sumV am ae (-bm) be))))))) <| oS (show Avoid (fun n => decide (0 ≤ n)) (jA ((jB (sumB am ae (-bm) be)) :: (ints .u8 (digs 88 (sumV am ae (-bm) be))))) from Avoid.agg (AvoidL.cons (Avoid.bool _ _) (AvoidL.ints _ _ _)))) (by kernel_rfl)
def qyu (am bm : Int) : Bool := !(decide (am < 0) == decide (bm < 0))
theorem unlike_meets (am ae bm be : Int) : Meets Try.prog 76 [jA [jI am, jI ae, jI bm, jI be]] [] (jB (qyu am bm)) [] := by
  exact qzy (fn := Try.f76) 1 [rG [hhN 0 0], rG [hhI 2 am, hhI 6 bm]] [{}] Try.func76 (by kernel_rfl) Try.call76
    (oA (oLf ([jI am, jI ae, jI bm, jI be]) (0) (jI am) (rfl)) <| oLf ([jI am, jI ae, jI bm, jI be]) (2) (jI bm) (rfl))
    (oS (@rfl _ (jB (qyu am bm)))) (by kernel_rfl)
def mulV (am ae bm be : Int) : Int := aV am (ae + be) * ((bm.natAbs : Nat) : Int)
theorem mulV_digs {am ae bm be : Int} (ham : -1000000000000000 < am ∧ am < 1000000000000000) (hae : -9 ≤ ae ∧ ae ≤ 9) (hbm : -1000000000000000 < bm ∧ bm < 1000000000000000) (hbe : -9 ≤ be ∧ be ≤ 9) :
    timesArr ((bm.natAbs : Nat) : Int) (digs 88 (aV am (ae + be))) 0 = digs 88 (mulV am ae bm be) := by
  have hX := aV_bounds ham (e := ae + be) (by omega)
  have h73 : (10 : Int) ^ 73 ≤ 10 ^ 88 := by decide
  have h1 : aV am (ae + be) * ((bm.natAbs : Nat) : Int) ≤ (10 ^ 73 - 1) * (10 ^ 15 - 1) := Int.mul_le_mul (by omega) (by omega) (by omega) (by decide)
  have h2 : ((10 : Int) ^ 73 - 1) * (10 ^ 15 - 1) < 10 ^ 88 := by decide
  exact timesArr_zero (by omega) ⟨hX.1, by omega⟩ (by omega)
attribute [irreducible] mulV
theorem product_meets (am ae bm be : Int) (ham : -1000000000000000 < am ∧ am < 1000000000000000) (hae : -9 ≤ ae ∧ ae ≤ 9) (hbm : -1000000000000000 < bm ∧ bm < 1000000000000000) (hbe : -9 ≤ be ∧ be ≤ 9) : Meets Try.prog 55 [jA [jI am, jI ae, jI bm, jI be]] [] (jA ((jB (qyu am bm)) :: (ints .u8 (digs 88 (mulV am ae bm be))))) [] := by
  exact qzy (fn := Try.f55) 3 [rG [hhN 0 0, (1, {nm := [1], obj := some [jC ((jB false) :: (ints .u8 (List.replicate 88 0))) 50]})], rG [hhI 2 am, hhI 5 ae, hhI 8 be, hhI 9 (ae + be), hhV 10 (jA [jI am, jI (ae + be)]), (11, {call := some ⟨[], [jA [jI am, jI (ae + be)]], [], jA ((jB (decide (am < 0))) :: (ints .u8 (digs 88 (aV am (ae + be))))), []⟩, val := some (jA ((jB (decide (am < 0))) :: (ints .u8 (digs 88 (aV am (ae + be))))))}), hhI 14 bm, hhM 15 (size_meets bm (by omega)), (16, {call := some ⟨[], [jA ((jB (decide (am < 0))) :: (ints .u8 (digs 88 (aV am (ae + be))))), jI ((bm.natAbs : Nat) : Int)], [], jA ((jB (decide (am < 0))) :: (ints .u8 (digs 88 (mulV am ae bm be)))), []⟩, val := some (jA ((jB (decide (am < 0))) :: (ints .u8 (digs 88 (mulV am ae bm be)))))}), (17, {nm := [2], obj := some [jC ((jB false) :: (ints .u8 (List.replicate 88 0))) 50]}), (18, {obj := some [jC ((jB (decide (am < 0))) :: (ints .u8 (digs 88 (mulV am ae bm be)))) 50]})], rG [hhV 0 (jA [jI am, jI ae, jI bm, jI be]), hhM 1 (unlike_meets am ae bm be), (3, {obj := some [jC ((jB (qyu am bm)) :: (ints .u8 (digs 88 (mulV am ae bm be)))) 50]})], rG [hhV 0 (jA ((jB (qyu am bm)) :: (ints .u8 (digs 88 (mulV am ae bm be))))), (1, {obj := some [jC ((jB (qyu am bm)) :: (ints .u8 (digs 88 (mulV am ae bm be)))) 50]})]] [{val := some (jA ((jB (qyu am bm)) :: (ints .u8 (digs 88 (mulV am ae bm be)))))}] Try.func55 (by kernel_rfl) Try.call55
    (oA (oS (show AObj.cells (zeroCellsA Try.prog 50) 50 = jC ((jB false) :: (ints .u8 (List.replicate 88 0))) 50 from by kernel_rfl)) <| oA (oLf ([jI am, jI ae, jI bm, jI be]) (0) (jI am) (rfl)) <| oA (oLf ([jI am, jI ae, jI bm, jI be]) (1) (jI ae) (rfl)) <| oA (oLf ([jI am, jI ae, jI bm, jI be]) (3) (jI be) (rfl)) <| oA (oWs (ae + be) (by omega)) <| oA (oS (show ([jI am] : List AV).length = 1 from rfl)) <| oA (oS (show 0 + 1 ≤ ([jI 0, jI 0] : List AV).length from Nat.le_of_ble_eq_true (by kernel_rfl))) <| oA (oS (show ([jI (ae + be)] : List AV).length = 1 from rfl)) <| oA (oS (show 1 + 1 ≤ (List.take 0 [jI 0, jI 0] ++ [jI am] ++ List.drop 1 [jI 0, jI 0] : List AV).length from Nat.le_of_ble_eq_true (by kernel_rfl))) <| oA (oS (show AV.agg (List.take 1 (List.take 0 [jI 0, jI 0] ++ [jI am] ++ List.drop 1 [jI 0, jI 0]) ++ [jI (ae + be)] ++ List.drop 2 (List.take 0 [jI 0, jI 0] ++ [jI am] ++ List.drop 1 [jI 0, jI 0])) = jA [jI am, jI (ae + be)] from by kernel_rfl)) <| oA (oC (show Meets Try.prog 33 [jA [jI am, jI (ae + be)]] [] (jA ((jB (decide (am < 0))) :: (ints .u8 (digs 88 (aV am (ae + be)))))) [] from lay_meets am (ae + be) _ (by omega) (by omega) (digs_aV _ _)) rfl) <| oA (oS (show AV.ren [] (jA ((jB (decide (am < 0))) :: (ints .u8 (digs 88 (aV am (ae + be)))))) = jA ((jB (decide (am < 0))) :: (ints .u8 (digs 88 (aV am (ae + be))))) from by simp only [renL, AV.ren, qzu, qxy, qyx])) <| oA (oLf ([jI am, jI ae, jI bm, jI be]) (2) (jI bm) (rfl)) <| oA (oC (size_meets bm (by omega)) rfl) <| oA (oS (show [jA ((jB (decide (am < 0))) :: (ints .u8 (digs 88 (aV am (ae + be))))), jI ((bm.natAbs : Nat) : Int)] = renL [] [jA ((jB (decide (am < 0))) :: (ints .u8 (digs 88 (aV am (ae + be))))), jI ((bm.natAbs : Nat) : Int)] from by simp only [renL, AV.ren, qzu, qxy, qyx])) <| oA (oS (show Meets Try.prog 75 [jA ((jB (decide (am < 0))) :: (ints .u8 (digs 88 (aV am (ae + be))))), jI ((bm.natAbs : Nat) : Int)] [] (jA ((jB (decide (am < 0))) :: (ints .u8 (digs 88 (mulV am ae bm be))))) [] from times_meets _ _ (by omega) _ (digs_dig _ _) (qyz _ _) _ (mulV_digs ham hae hbm hbe))) <| oA (oS (show AV.ren [] (jA ((jB (decide (am < 0))) :: (ints .u8 (digs 88 (mulV am ae bm be))))) = jA ((jB (decide (am < 0))) :: (ints .u8 (digs 88 (mulV am ae bm be)))) from by simp only [renL, AV.ren, qzu, qxy, qyx])) <| oA (oS (show AObj.cells (zeroCellsA Try.prog 50) 50 = jC ((jB false) :: (ints .u8 (List.replicate 88 0))) 50 from by kernel_rfl)) <| oA (oSw (n := 89) ((jB (decide (am < 0))) :: (ints .u8 (digs 88 (mulV am ae bm be)))) ((jB false) :: (ints .u8 (List.replicate 88 0))) 50 lnO lnO) <| oA (oLw ([jI am, jI ae, jI bm, jI be]) (rfl)) <| oA (oC (unlike_meets am ae bm be) rfl) <| oA (oS (show ([jB (qyu am bm)] : List AV).length = 1 from rfl)) <| oA (oS (show 0 + 1 ≤ List.length ((jB (decide (am < 0))) :: (ints .u8 (digs 88 (mulV am ae bm be)))) from lnO)) <| oA (oS (show AObj.cells (List.take 0 ((jB (decide (am < 0))) :: (ints .u8 (digs 88 (mulV am ae bm be)))) ++ [jB (qyu am bm)] ++ List.drop (0 + 1) ((jB (decide (am < 0))) :: (ints .u8 (digs 88 (mulV am ae bm be))))) 50 = jC ((jB (qyu am bm)) :: (ints .u8 (digs 88 (mulV am ae bm be)))) 50 from rfl)) <| oA (oLw (n := 89) ((jB (qyu am bm)) :: (ints .u8 (digs 88 (mulV am ae bm be)))) lnO) <| oSw (n := 89) ((jB (qyu am bm)) :: (ints .u8 (digs 88 (mulV am ae bm be)))) ((jB false) :: (ints .u8 (List.replicate 88 0))) 50 lnO lnO)
    (oA (oLw (n := 89) ((jB (qyu am bm)) :: (ints .u8 (digs 88 (mulV am ae bm be)))) lnO) <| oA (oS (@rfl _ (jA ((jB (qyu am bm)) :: (ints .u8 (digs 88 (mulV am ae bm be))))))) <| oS (show Avoid (fun n => decide (0 ≤ n)) (jA ((jB (qyu am bm)) :: (ints .u8 (digs 88 (mulV am ae bm be))))) from Avoid.agg (AvoidL.cons (Avoid.bool _ _) (AvoidL.ints _ _ _)))) (by kernel_rfl)
theorem digs_put {n q : Nat} {h d : Int} (hq : q < n) (hd : 0 ≤ d ∧ d ≤ 9) : (digs n (h * 10 ^ (q + 1))).set (n - 1 - q) d = digs n (h * 10 ^ (q + 1) + d * 10 ^ q) := by
  have e1 := digs_add q (n - q) (h * 10 ^ (q + 1))
  have e2 := digs_add q (n - q) (h * 10 ^ (q + 1) + d * 10 ^ q)
  rw [show n - q + q = n by omega] at e1 e2
  have hp := pow_pos' q
  have q1 : h * 10 ^ (q + 1) / 10 ^ q = h * 10 := by rw [Int.pow_succ, Int.mul_comm (10 ^ q) 10, ← Int.mul_assoc, Int.mul_ediv_cancel _ (by omega)]
  have q2 : (h * 10 ^ (q + 1) + d * 10 ^ q) / 10 ^ q = h * 10 + d := by rw [Int.add_mul_ediv_right _ _ (by omega), q1]
  have m2 : digs q (h * 10 ^ (q + 1) + d * 10 ^ q) = digs q (h * 10 ^ (q + 1)) := by
    rw [← digs_mod q (h * 10 ^ (q + 1) + d * 10 ^ q), ← digs_mod q (h * 10 ^ (q + 1)), Int.add_mul_emod_self_right]
  rw [e1, e2, q1, q2, m2]
  obtain ⟨m, hm⟩ : ∃ m, n - q = m + 1 := ⟨n - q - 1, by omega⟩
  rw [hm, List.set_append_left _ _ (by rw [qyz]; omega)]
  congr 1
  rw [digs, digs, show n - 1 - q = m by omega, List.set_append_right _ _ (by rw [qyz]; omega), qyz]
  rw [show h * 10 / 10 = h by omega, show (h * 10 + d) / 10 = h by omega, show (h * 10 + d) % 10 = d by omega]
  simp
theorem mulmod (x b : Int) : x % b * 10 % b = x * 10 % b := by
  rw [Int.mul_emod x 10 b, Int.mul_emod (x % b) 10 b, Int.emod_emod_of_dvd x (Int.dvd_refl b)]
def quoV (am ae bm be : Int) : Int := ((am.natAbs : Nat) : Int) * 10 ^ (ae - be + 40).toNat / ((bm.natAbs : Nat) : Int)
def quo_inv (am ae bm be b : Int) (mx : Bool) (r : Int) (ds : List Int) (k : Int) : AState :=
  ⟨([none, none, sP 1 0, sI r, sI b, none, sP 2 0, sI k] ++ nn 42), [some (jC [jI am, jI ae, jI bm, jI be] 65), some (jC ((jB false) :: (ints .u8 (List.replicate 88 0))) 50), some (jC ((jB mx) :: (ints .u8 ds)) 50)]⟩
theorem quo_round (am ae bm be b : Int) (mx : Bool) (r : Int) (ds : List Int) (k : Nat) (hl : ds.length = 88) (hk : k < 88) (hb : 0 < b ∧ b < 1000000000000000) (hr : 0 ≤ r ∧ r < 100000000000000000) (hm : 0 ≤ r % b ∧ r % b < b) (hd : 0 ≤ r % b * 10 / b ∧ r % b * 10 / b ≤ 9) : Tri Try.prog (loopN (qzx Try.f57) 0) (quo_inv am ae bm be b mx r ds k) .normal (quo_inv am ae bm be b mx (r % b * 10) (ds.set k (r % b * 10 / b)) ((k + 1 : Nat) : Int)) := by
  exact qxz [rG [hhB 1 true], rG [hhI 2 (r % b), hhI 3 ((r % b) * 10)], rG [hhI 3 (r % b * 10 / b), hhV 4 (jU (r % b * 10 / b)), hhV 6 (jP 2 (k + 1)), (7, {obj := some [jC ((jB mx) :: (ints .u8 (ds.set k (r % b * 10 / b)))) 50]})], rG [hhI 1 ((k + 1 : Nat) : Int)]]
    (oA (oS (show AV.bool (decide (((k : Nat) : Int) < 88)) = jB true from bT (by omega))) <| oA (oS (show b ≠ 0 from by omega)) <| oA (oS (show AV.int .i64 (r.tmod b) = jI (r % b) from remI ⟨hr.1, rfl⟩)) <| oA (oWs ((r % b) * 10) (by omega)) <| oA (oS (show b ≠ 0 from by omega)) <| oA (oS (show AV.int .i64 (IntKind.i64.wrap (((r % b) * 10).tdiv b)) = jI (r % b * 10 / b) from quoI ⟨by omega, by omega, by omega, rfl⟩)) <| oA (oS (show AV.int .u8 (IntKind.u8.wrap (r % b * 10 / b)) = jU (r % b * 10 / b) from w_u8 (by omega))) <| oA (oS (show 0 ≤ ((k : Nat) : Int) from by omega)) <| oA (oS (show ((k : Nat) : Int) < ((88 : Nat) : Int) from by omega)) <| oA (oS (show AV.ptr 2 (1 + Int.toNat ((k : Nat) : Int) * 1) = jP 2 (k + 1) from ptrE (by omega))) <| oA (oS (show ([jU (r % b * 10 / b)] : List AV).length = 1 from rfl)) <| oA (oS (show (k + 1) + 1 ≤ List.length ((jB mx) :: (ints .u8 ds)) from lnO)) <| oA (oS (show AObj.cells (List.take (k + 1) ((jB mx) :: (ints .u8 ds)) ++ [jU (r % b * 10 / b)] ++ List.drop ((k + 1) + 1) ((jB mx) :: (ints .u8 ds))) 50 = jC ((jB mx) :: (ints .u8 (ds.set k (r % b * 10 / b)))) 50 from store_ints [jB mx] (by omega))) <| oW (((k : Nat) : Int) + 1) ((k + 1 : Nat) : Int) (by omega))
    (oA (oR [jP 1 0, jI ((r % b) * 10), jI b, jP 2 0, jI ((k + 1 : Nat) : Int)]) <| oQ [jC [jI am, jI ae, jI bm, jI be] 65, jC ((jB false) :: (ints .u8 (List.replicate 88 0))) 50, jC ((jB mx) :: (ints .u8 (ds.set k (r % b * 10 / b)))) 50]) (by kernel_rfl)
def quo_out (am ae bm be : Int) (mx : Bool) (ds : List Int) : AState :=
  ⟨([none, none, sP 1 0, none, none, none, sP 2 0] ++ nn 43), [some (jC [jI am, jI ae, jI bm, jI be] 65), some (jC ((jB false) :: (ints .u8 (List.replicate 88 0))) 50), some (jC ((jB mx) :: (ints .u8 ds)) 50)]⟩
theorem quo_last (am ae bm be b : Int) (mx : Bool) (r : Int) (ds : List Int) : Tri Try.prog (loopN (qzx Try.f57) 0) (quo_inv am ae bm be b mx r ds 88) (.exit 0) (quo_out am ae bm be mx ds) := by
  exact qxz [rG [hhB 1 false]]
    (oS (show AV.bool (decide ((88 : Int) < 88)) = jB false from boolE (by decide)))
    (oA (oR [jP 1 0, jP 2 0]) <| oQ [jC [jI am, jI ae, jI bm, jI be] 65, jC ((jB false) :: (ints .u8 (List.replicate 88 0))) 50, jC ((jB mx) :: (ints .u8 ds)) 50]) (by kernel_rfl)
theorem quo_loop (am ae bm be A b : Int) (mx : Bool) (hb : 0 < b ∧ b < 1000000000000000) (hA : 0 ≤ A ∧ A < 1000000000000000) (T : Nat) (hT : T ≤ 88) :
    Tri Try.prog (.loop (loopN (qzx Try.f57) 0)) (quo_inv am ae bm be b mx A (digs 88 (A / b * 10 ^ T)) ((88 - T : Nat) : Int)) (.exit 0) (quo_out am ae bm be mx (digs 88 (A * 10 ^ T / b))) := by
  have main := tri_loop (P := Try.prog) (body := loopN (qzx Try.f57) 0) (out := quo_out am ae bm be mx (digs 88 (A * 10 ^ T / b))) (ι := {q : Nat × Int // q.1 ≤ T ∧ (0 ≤ q.2 ∧ q.2 < 100000000000000000) ∧ q.2 % b = A * 10 ^ (T - q.1) % b}) (fun i => quo_inv am ae bm be b mx i.1.2 (digs 88 (A * 10 ^ (T - i.1.1) / b * 10 ^ i.1.1)) ((88 - i.1.1 : Nat) : Int)) (fun i => i.1.1) (ne_normal_exit 0) (by
    rintro ⟨⟨p, r⟩, h1, h2, h3⟩
    simp only at h1 h2 h3
    cases p with
    | zero =>
      refine .inr ?_
      have := quo_last am ae bm be b mx r (digs 88 (A * 10 ^ T / b))
      simpa using this
    | succ p =>
      have hm := Int.emod_nonneg r (by omega : b ≠ 0)
      have hm2 := Int.emod_lt_of_pos r hb.1
      have hd : 0 ≤ r % b * 10 / b ∧ r % b * 10 / b ≤ 9 := ⟨Int.ediv_nonneg (by omega) (by omega), Int.le_of_lt_add_one (Int.ediv_lt_of_lt_mul hb.1 (by omega))⟩
      refine .inl ⟨⟨(p, r % b * 10), by simp only; omega, by simp only; omega, ?_⟩, Nat.lt_succ_self p, ?_⟩
      · simp only
        rw [show T - p = T - (p + 1) + 1 by omega, Int.pow_succ, ← Int.mul_assoc, ← mulmod (A * 10 ^ (T - (p + 1))), ← h3]
      · have hr := quo_round am ae bm be b mx r (digs 88 (A * 10 ^ (T - (p + 1)) / b * 10 ^ (p + 1))) (88 - (p + 1)) (qyz _ _) (by omega) hb h2 ⟨hm, hm2⟩ hd
        rw [show (88 - (p + 1) : Nat) = 88 - 1 - p by omega, digs_put (by omega) hd, show 88 - 1 - p + 1 = 88 - p by omega] at hr
        have e : A * 10 ^ (T - (p + 1)) / b * 10 ^ (p + 1) + r % b * 10 / b * 10 ^ p = A * 10 ^ (T - p) / b * 10 ^ p := by
          rw [Int.pow_succ 10 p, Int.mul_comm (10 ^ p) 10, ← Int.mul_assoc, ← Int.add_mul]
          congr 1
          rw [h3, show T - p = T - (p + 1) + 1 by omega, Int.pow_succ, ← Int.mul_assoc]
          generalize A * 10 ^ (T - (p + 1)) = x
          have e1 := Int.mul_ediv_add_emod x b
          have e2 : x * 10 = x % b * 10 + x / b * 10 * b := by
            have : x / b * 10 * b = b * (x / b) * 10 := by rw [Int.mul_comm b, Int.mul_assoc, Int.mul_comm 10 b, Int.mul_assoc]
            omega
          rw [e2, Int.add_mul_ediv_right _ _ (by omega)]; omega
        rw [e] at hr
        simpa using hr) ⟨(T, A), Nat.le_refl _, by simp only; omega, by simp⟩
  simpa using main
end Go.Proofs.Ytmgiefeggkikcaa
