import Derived.Test.YtmgiefeggkikcaaSx2
import Derived.Test.YtmgiefeggkikcaaRows
import Derived.Test.YtmgiefeggkikcaaDecA
import Derived.Test.YtmgiefeggkikcaaDecB
set_option linter.unusedVariables false
set_option linter.unusedSimpArgs false
set_option maxRecDepth 20000
namespace Go.Proofs.Ytmgiefeggkikcaa
open Go Sx Dc

theorem cmpI_val : ∀ (xs ys : List Int), Dig xs → Dig ys → xs.length = ys.length → cmpI xs ys = if val xs < val ys then -1 else if val ys < val xs then 1 else 0
  | [], [], _, _, _ => by simp [cmpI, val]
  | [], _ :: _, _, _, h => by simp at h
  | _ :: _, [], _, _, h => by simp at h
  | x :: xs, y :: ys, hx, hy, hl => by
    obtain ⟨hx1, hx2⟩ := hx.cons
    obtain ⟨hy1, hy2⟩ := hy.cons
    have hl' : xs.length = ys.length := by simpa using hl
    have ih := cmpI_val xs ys hx2 hy2 hl'
    have bx := val_bounds xs hx2
    have b := val_bounds ys hy2
    rw [← hl'] at b
    rw [cmpI, ih, val_cons, val_cons, ← hl']
    have hp := pow_pos' xs.length
    generalize (10 : Int) ^ xs.length = p at *
    by_cases h1 : x < y
    · have : (x + 1) * p ≤ y * p := Int.mul_le_mul_of_nonneg_right (by omega) (by omega)
      rw [Int.add_mul] at this
      rw [if_pos h1, if_pos (by omega)]
    · by_cases h2 : y < x
      · have : (y + 1) * p ≤ x * p := Int.mul_le_mul_of_nonneg_right (by omega) (by omega)
        rw [Int.add_mul] at this
        rw [if_neg h1, if_pos h2, if_neg (by omega), if_pos (by omega)]
      · have : x = y := by omega
        subst this
        rw [if_neg h1, if_neg h2]
        split <;> split <;> first | rfl | omega | (split <;> first | rfl | omega)

theorem Dig.u8 {l : List Int} (h : Dig l) : ∀ x ∈ l, 0 ≤ x ∧ x < 256 := fun x hx => by have := h x hx; omega

def lay_inv (m e r : Int) (p : Nat) (ds : List Int) : AState :=
  ⟨[none, none, sP 1 0, sP 2 0, sI r, sI (87 - (p : Int)), none, none, none, none, none, none, none, none, none, none, none, none, none, none, none, none, none, none, none, none, none, none, none], [some (jC [jI m, jI e] 23), some (jC ((jB false) :: (ints .u8 (List.replicate 88 0))) 50), some (jC ((jB (decide (m < 0))) :: (ints .u8 ds)) 50)]⟩

theorem lay_round (m e r : Int) (p : Nat) (ds : List Int) (hlen : ds.length = 88) (h1 : 0 < r) (h2 : r < 9223372036854775808) (h3 : p < 88) : Tri Try.prog (loopN (bodyOf Try.f33) 0) (lay_inv m e r p ds) .normal (lay_inv m e (r / 10) (p + 1) (ds.set (87 - (p : Int)).toNat (r % 10))) := by
  exact tri_weak [rG [hhB 1 true], rG [hhI 2 (r % 10), hhV 3 (jU (r % 10)), hhV 5 (jP 2 (((87 - (p : Int))).toNat + 1)), (6, {obj := some [jC ((jB (decide (m < 0))) :: (ints .u8 (ds.set (((87 - (p : Int))).toNat) (r % 10)))) 50]})], rG [hhI 1 (r / 10)], rG [hhI 1 ((87 - (p : Int)) - 1)]]
    (oA (oS (bT h1)) <| oA (oS (show (10 : Int) ≠ 0 from by decide)) <| oA (oS (show AV.int .i64 (r.tmod 10) = jI (r % 10) from remI (by omega))) <| oA (oS (show AV.int .u8 (IntKind.u8.wrap (r % 10)) = jU (r % 10) from w_u8 (by omega))) <| oA (oS (show 0 ≤ (87 - (p : Int)) from by omega)) <| oA (oS (show (87 - (p : Int)) < ((88 : Nat) : Int) from by omega)) <| oA (oS (show AV.ptr 2 (1 + Int.toNat (87 - (p : Int)) * 1) = jP 2 (((87 - (p : Int))).toNat + 1) from ptrE (by omega))) <| oA (oS (show ([jU (r % 10)] : List AV).length = 1 from rfl)) <| oA (oS (show (((87 - (p : Int))).toNat + 1) + 1 ≤ List.length ((jB (decide (m < 0))) :: (ints .u8 ds)) from (by simp only [List.length_cons, List.length_nil, List.length_append, ints_length, u8s_length, List.length_replicate, List.length_set, List.length_map, digs_length] <;> omega))) <| oA (oS (show AObj.cells (List.take (((87 - (p : Int))).toNat + 1) ((jB (decide (m < 0))) :: (ints .u8 ds)) ++ [jU (r % 10)] ++ List.drop ((((87 - (p : Int))).toNat + 1) + 1) ((jB (decide (m < 0))) :: (ints .u8 ds))) 50 = jC ((jB (decide (m < 0))) :: (ints .u8 (ds.set (((87 - (p : Int))).toNat) (r % 10)))) 50 from store_ints [jB (decide (m < 0))] (by omega))) <| oA (oS (show (10 : Int) ≠ 0 from by decide)) <| oA (oS (show AV.int .i64 (IntKind.i64.wrap (r.tdiv 10)) = jI (r / 10) from quoI (by omega))) <| oWs ((87 - (p : Int)) - 1) (by omega))
    (oA (oR [jP 1 0, jP 2 0, jI (r / 10)]) <| oA (oS (show jI ((87 - (p : Int)) - 1) = jI (87 - ((p + 1 : Nat) : Int)) from intE (by omega))) <| oQ [jC [jI m, jI e] 23, jC ((jB false) :: (ints .u8 (List.replicate 88 0))) 50, jC ((jB (decide (m < 0))) :: (ints .u8 (ds.set (((87 - (p : Int))).toNat) (r % 10)))) 50]) (by kernel_rfl)

def lay_out (m e : Int) (ds : List Int) : AState :=
  ⟨[none, none, sP 1 0, sP 2 0, none, none, none, none, none, none, none, none, none, none, none, none, none, none, none, none, none, none, none, none, none, none, none, none, none], [some (jC [jI m, jI e] 23), some (jC ((jB false) :: (ints .u8 (List.replicate 88 0))) 50), some (jC ((jB (decide (m < 0))) :: (ints .u8 ds)) 50)]⟩

theorem lay_last (m e r : Int) (p : Nat) (ds : List Int) (hlen : ds.length = 88) (h1 : ¬ 0 < r) : Tri Try.prog (loopN (bodyOf Try.f33) 0) (lay_inv m e r p ds) (.exit 0) (lay_out m e ds) := by
  exact tri_weak [rG [hhB 1 false]]
    (oS (bF h1))
    (oA (oR [jP 1 0, jP 2 0]) <| oQ [jC [jI m, jI e] 23, jC ((jB false) :: (ints .u8 (List.replicate 88 0))) 50, jC ((jB (decide (m < 0))) :: (ints .u8 ds)) 50]) (by kernel_rfl)

theorem lay_loop (m e N : Int) (r0 : Int) (p0 : Nat) (hr0 : 0 ≤ r0 ∧ r0 < 9223372036854775808) (hp0 : p0 ≤ 88) (hN : r0 * 10 ^ p0 = N) (hb : N < 10 ^ 80) :
    Tri Try.prog (.loop (loopN (bodyOf Try.f33) 0)) (lay_inv m e r0 p0 (digs 88 0)) (.exit 0) (lay_out m e (digs 88 N)) := by
  refine tri_loop (ι := {q : Int × Nat × Int // 0 ≤ q.1 ∧ q.1 < 9223372036854775808 ∧ 0 ≤ q.2.2 ∧ q.2.2 < 10 ^ q.2.1 ∧ q.1 * 10 ^ q.2.1 + q.2.2 = N}) (fun i => lay_inv m e i.1.1 i.1.2.1 (digs 88 i.1.2.2)) (fun i => i.1.1.toNat) (ne_normal_exit 0) ?_ ⟨(r0, p0, 0), hr0.1, hr0.2, Int.le_refl 0, pow_pos' p0, by simp only; omega⟩
  rintro ⟨⟨r, p, v⟩, h1, h2, h3, h4, h5⟩
  simp only at h1 h2 h3 h4 h5
  by_cases hr : 0 < r
  · have hp : p < 88 := by
      rcases Nat.lt_or_ge p 88 with h | h
      · exact h
      · exfalso
        have a1 : (10 : Int) ^ 88 ≤ 10 ^ p := pow_mono h
        have a2 : 1 * (10 : Int) ^ p ≤ r * 10 ^ p := Int.mul_le_mul_of_nonneg_right (by omega) (by have := pow_pos' p; omega)
        have a3 : (10 : Int) ^ 80 ≤ 10 ^ 88 := by decide
        omega
    have e1 : digs 88 (r % 10 * 10 ^ p + v) = (digs 88 v).set (87 - (p : Int)).toNat (r % 10) := by
      rw [show (87 - (p : Int)).toNat = 88 - 1 - p by omega, digs_set hp h3 h4 (by omega)]
    refine .inl ⟨⟨(r / 10, p + 1, r % 10 * 10 ^ p + v), by simp only; omega, by simp only; omega, ?_, ?_, ?_⟩, by simp only; omega, by simp only [e1]; exact lay_round m e r p _ (digs_length _ _) hr h2 hp⟩
    · simp only
      have : 0 ≤ r % 10 * 10 ^ p := Int.mul_nonneg (by omega) (by have := pow_pos' p; omega)
      omega
    · simp only
      have : r % 10 * 10 ^ p ≤ 9 * 10 ^ p := Int.mul_le_mul_of_nonneg_right (by omega) (by have := pow_pos' p; omega)
      rw [Int.pow_succ]; omega
    · simp only
      rw [Int.pow_succ, ← h5, ← Int.add_assoc]
      congr 1
      rw [Int.mul_comm (10 ^ p) 10, ← Int.mul_assoc, ← Int.add_mul]
      congr 1; omega
  · have hr0 : r = 0 := by omega
    subst hr0
    have hv : v = N := by simpa using h5
    subst hv
    exact .inr (lay_last m e 0 p _ (digs_length _ _) (by omega))

theorem lay_meets (m e : Int) (ds : List Int) (hm : -1000000000000000 < m ∧ m < 1000000000000000) (he : -18 ≤ e ∧ e ≤ 18) (hds : digs 88 ((m.natAbs : Int) * 10 ^ (e + 40).toNat) = ds) : Meets Try.prog 33 [jA [jI m, jI e]] [] (jA ((jB (decide (m < 0))) :: (ints .u8 ds))) [] := by
  have hb : (m.natAbs : Int) * 10 ^ (e + 40).toNat < 10 ^ 80 := by
    have a1 : (10 : Int) ^ (e + 40).toNat ≤ 10 ^ 58 := pow_mono (by omega)
    have a2 : (m.natAbs : Int) * 10 ^ (e + 40).toNat ≤ 10 ^ 15 * 10 ^ 58 := Int.mul_le_mul (by omega) a1 (by have := pow_pos' (e + 40).toNat; omega) (by decide)
    have a3 : (10 : Int) ^ 15 * 10 ^ 58 < 10 ^ 80 := by decide
    omega
  have hlen : ds.length = 88 := by rw [← hds, digs_length]
  have hl := lay_loop m e _ (m.natAbs : Int) (e + 40).toNat ⟨by omega, by omega⟩ (by omega) rfl hb
  rw [hds, ← zeros_digs] at hl
  exact meets_run (fn := Try.f33) 3 [rG [hhN 0 0, (1, {nm := [1], obj := some [jC ((jB false) :: (ints .u8 (List.replicate 88 0))) 50]})], rG [hhI 1 m, hhV 3 (jA ((jB (decide (m < 0))) :: (ints .u8 (List.replicate 88 0)))), (4, {nm := [2], obj := some [jC ((jB false) :: (ints .u8 (List.replicate 88 0))) 50]}), (5, {obj := some [jC ((jB (decide (m < 0))) :: (ints .u8 (List.replicate 88 0))) 50]})], rG [hhI 1 m, hhM 2 (size_meets m (by omega))], rG [hhI 1 e, hhI 2 (47 - e)], .loop (⟨[none, none, sP 1 0, sP 2 0, sI ((m.natAbs : Nat) : Int), sI (87 - (((e + 40).toNat : Nat) : Int)), none, none, none, none, none, none, none, none, none, none, none, none, none, none, none, none, none, none, none, none, none, none, none], [some (jC [jI m, jI e] 23), some (jC ((jB false) :: (ints .u8 (List.replicate 88 0))) 50), some (jC ((jB (decide (m < 0))) :: (ints .u8 (List.replicate 88 0))) 50)]⟩) (.exit 0) (⟨[none, none, sP 1 0, sP 2 0, none, none, none, none, none, none, none, none, none, none, none, none, none, none, none, none, none, none, none, none, none, none, none, none, none], [some (jC [jI m, jI e] 23), some (jC ((jB false) :: (ints .u8 (List.replicate 88 0))) 50), some (jC ((jB (decide (m < 0))) :: (ints .u8 ds)) 50)]⟩), rG [hhV 0 (jA ((jB (decide (m < 0))) :: (ints .u8 ds))), (1, {obj := some [jC ((jB (decide (m < 0))) :: (ints .u8 ds)) 50]})]] [{val := some (jA ((jB (decide (m < 0))) :: (ints .u8 ds)))}] Try.func33 (by kernel_rfl) Try.call33
    (oA (oS (show AObj.cells (zeroCellsA Try.prog 50) 50 = jC ((jB false) :: (ints .u8 (List.replicate 88 0))) 50 from by kernel_rfl)) <| oA (oLf ([jI m, jI e]) (0) (jI m) (rfl)) <| oA (oS (show ([jB (decide (m < 0))] : List AV).length = 1 from rfl)) <| oA (oS (show 0 + 1 ≤ ((zeroCellsA Try.prog 50) : List AV).length from Nat.le_of_ble_eq_true (by kernel_rfl))) <| oA (oS (show AV.agg (List.take 0 (zeroCellsA Try.prog 50) ++ [jB (decide (m < 0))] ++ List.drop 1 (zeroCellsA Try.prog 50)) = jA ((jB (decide (m < 0))) :: (ints .u8 (List.replicate 88 0))) from by kernel_rfl)) <| oA (oS (show AObj.cells (zeroCellsA Try.prog 50) 50 = jC ((jB false) :: (ints .u8 (List.replicate 88 0))) 50 from by kernel_rfl)) <| oA (oSw (n := 89) ((jB (decide (m < 0))) :: (ints .u8 (List.replicate 88 0))) ((jB false) :: (ints .u8 (List.replicate 88 0))) 50 (by simp only [List.length_cons, List.length_nil, List.length_append, ints_length, u8s_length, List.length_replicate, List.length_set, List.length_map, digs_length] <;> omega) (by simp only [List.length_cons, List.length_nil, List.length_append, ints_length, u8s_length, List.length_replicate, List.length_set, List.length_map, digs_length] <;> omega)) <| oA (oLf ([jI m, jI e]) (0) (jI m) (rfl)) <| oA (oC (size_meets m (by omega)) rfl) <| oA (oLf ([jI m, jI e]) (1) (jI e) (rfl)) <| oA (oWs (47 - e) (by omega)) <| oA (oR [jP 1 0, jP 2 0, jI ((m.natAbs : Nat) : Int)]) <| oA (oS (show jI (47 - e) = jI (87 - (((e + 40).toNat : Nat) : Int)) from intE (by omega))) <| oA (oQ [jC [jI m, jI e] 23, jC ((jB false) :: (ints .u8 (List.replicate 88 0))) 50, jC ((jB (decide (m < 0))) :: (ints .u8 (List.replicate 88 0))) 50]) <| oA (oS (show Tri Try.prog (.loop (loopN (bodyOf Try.f33) 0)) (⟨[none, none, sP 1 0, sP 2 0, sI ((m.natAbs : Nat) : Int), sI (87 - (((e + 40).toNat : Nat) : Int)), none, none, none, none, none, none, none, none, none, none, none, none, none, none, none, none, none, none, none, none, none, none, none], [some (jC [jI m, jI e] 23), some (jC ((jB false) :: (ints .u8 (List.replicate 88 0))) 50), some (jC ((jB (decide (m < 0))) :: (ints .u8 (List.replicate 88 0))) 50)]⟩) (.exit 0) (⟨[none, none, sP 1 0, sP 2 0, none, none, none, none, none, none, none, none, none, none, none, none, none, none, none, none, none, none, none, none, none, none, none, none, none], [some (jC [jI m, jI e] 23), some (jC ((jB false) :: (ints .u8 (List.replicate 88 0))) 50), some (jC ((jB (decide (m < 0))) :: (ints .u8 ds)) 50)]⟩) from hl)) <| oA (oLw (n := 89) ((jB (decide (m < 0))) :: (ints .u8 ds)) (by simp only [List.length_cons, List.length_nil, List.length_append, ints_length, u8s_length, List.length_replicate, List.length_set, List.length_map, digs_length] <;> omega)) <| oSw (n := 89) ((jB (decide (m < 0))) :: (ints .u8 ds)) ((jB false) :: (ints .u8 (List.replicate 88 0))) 50 (by simp only [List.length_cons, List.length_nil, List.length_append, ints_length, u8s_length, List.length_replicate, List.length_set, List.length_map, digs_length] <;> omega) (by simp only [List.length_cons, List.length_nil, List.length_append, ints_length, u8s_length, List.length_replicate, List.length_set, List.length_map, digs_length] <;> omega))
    (oA (oLw (n := 89) ((jB (decide (m < 0))) :: (ints .u8 ds)) (by simp only [List.length_cons, List.length_nil, List.length_append, ints_length, u8s_length, List.length_replicate, List.length_set, List.length_map, digs_length] <;> omega)) <| oA (oS (@rfl _ (jA ((jB (decide (m < 0))) :: (ints .u8 ds))))) <| oS (show Avoid (fun n => decide (0 ≤ n)) (jA ((jB (decide (m < 0))) :: (ints .u8 ds))) from Avoid.agg (AvoidL.cons (Avoid.bool _ _) (AvoidL.ints _ _ _)))) (by kernel_rfl)

def maxL (l : List Int) : Int := l.foldl max (l.getD 0 0)

end Go.Proofs.Ytmgiefeggkikcaa
