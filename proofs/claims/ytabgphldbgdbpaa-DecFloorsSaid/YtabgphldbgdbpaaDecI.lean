import Derived.Test.YtabgphldbgdbpaaDecH
import Derived.Test.YtabgphldbgdbpaaSxX
set_option linter.unusedVariables false
set_option linter.unusedSimpArgs false
set_option maxRecDepth 20000
namespace Go.Proofs.Ytabgphldbgdbpaa
open Go Sx Dc

/-- A decimal's figures as a number, times ten to 40: without its sign, and with it. -/
def aV (m e : Int) : Int := ((m.natAbs : Nat) : Int) * 10 ^ (e + 40).toNat
def sV (m e : Int) : Int := m * 10 ^ (e + 40).toNat
theorem aV_bounds {m e : Int} (hm : -1000000000000000 < m ∧ m < 1000000000000000) (he : -18 ≤ e ∧ e ≤ 18) : 0 ≤ aV m e ∧ aV m e < 10 ^ 73 := by
  have a1 : (10 : Int) ^ (e + 40).toNat ≤ 10 ^ 58 := pow_mono (by omega)
  have hp := pow_pos' (e + 40).toNat
  have a2 : (m.natAbs : Int) * 10 ^ (e + 40).toNat ≤ (10 ^ 15 - 1) * 10 ^ 58 := Int.mul_le_mul (by omega) a1 (by omega) (by decide)
  have a3 : ((10 : Int) ^ 15 - 1) * 10 ^ 58 < 10 ^ 73 := by decide
  have a4 : 0 ≤ (m.natAbs : Int) * 10 ^ (e + 40).toNat := Int.mul_nonneg (by omega) (by omega)
  unfold aV; omega
theorem sV_neg {m e : Int} (h : m < 0) : sV m e = -aV m e := by
  unfold sV aV
  rw [show m = -((m.natAbs : Nat) : Int) by omega, Int.neg_mul]
  simp
theorem sV_pos {m e : Int} (h : ¬ m < 0) : sV m e = aV m e := by
  unfold sV aV
  rw [show ((m.natAbs : Nat) : Int) = m by omega]
def sumB (am ae bm be : Int) : Bool := if aV am ae < aV bm be then decide (bm < 0) else decide (am < 0)
def sumV (am ae bm be : Int) : Int := (((sV am ae + sV bm be).natAbs : Nat) : Int)
theorem cmp_digs {X Y : Int} (hX : 0 ≤ X ∧ X < 10 ^ 73) (hY : 0 ≤ Y ∧ Y < 10 ^ 73) : cmpI (digs 88 X) (digs 88 Y) < 0 ↔ X < Y := by
  have h73 : (10 : Int) ^ 73 ≤ 10 ^ 88 := by decide
  rw [cmpI_val _ _ (digs_dig _ _) (digs_dig _ _) (by rw [digs_length, digs_length]), val_digs _ _ hX.1 (by omega), val_digs _ _ hY.1 (by omega)]
  split
  · simp [*]
  · split <;> simp [*]
theorem sgn_sV (m e n f : Int) (hm : -1000000000000000 < m ∧ m < 1000000000000000) (he : -18 ≤ e ∧ e ≤ 18) (hn : -1000000000000000 < n ∧ n < 1000000000000000) (hf : -18 ≤ f ∧ f ≤ 18) (h : aV n f ≤ aV m e) :
    addArr (sgnOf (decide (m < 0)) (decide (n < 0))) (digs 88 (aV m e)) (digs 88 (aV n f)) 0 = digs 88 (((sV m e + sV n f).natAbs : Nat) : Int) := by
  have h73 : (10 : Int) ^ 73 + 10 ^ 73 ≤ 10 ^ 88 := by decide
  have hX := aV_bounds hm he
  have hY := aV_bounds hn hf
  generalize hp : (10 : Int) ^ 73 = p at *
  generalize hq : (10 : Int) ^ 88 = q at *
  have key : ∀ s : Int, (s = 1 ∨ s = -1) → (0 ≤ aV m e + s * aV n f ∧ aV m e + s * aV n f < q) → addArr s (digs 88 (aV m e)) (digs 88 (aV n f)) 0 = digs 88 (aV m e + s * aV n f) :=
    fun s hs hr => addArr_zero hs (by rw [hq]; omega) (by rw [hq]; omega) (by rw [hq]; exact hr)
  by_cases c1 : m < 0 <;> by_cases c2 : n < 0
  · rw [show sgnOf (decide (m < 0)) (decide (n < 0)) = 1 by simp [sgnOf, c1, c2], key 1 (.inl rfl) (by omega), sV_neg c1, sV_neg c2]
    congr 1; omega
  · rw [show sgnOf (decide (m < 0)) (decide (n < 0)) = -1 by simp [sgnOf, c1, c2], key (-1) (.inr rfl) (by omega), sV_neg c1, sV_pos c2]
    congr 1; omega
  · rw [show sgnOf (decide (m < 0)) (decide (n < 0)) = -1 by simp [sgnOf, c1, c2], key (-1) (.inr rfl) (by omega), sV_pos c1, sV_neg c2]
    congr 1; omega
  · rw [show sgnOf (decide (m < 0)) (decide (n < 0)) = 1 by simp [sgnOf, c1, c2], key 1 (.inl rfl) (by omega), sV_pos c1, sV_pos c2]
    congr 1; omega
theorem digs_aV (m e : Int) : digs 88 (((m.natAbs : Nat) : Int) * 10 ^ (e + 40).toNat) = digs 88 (aV m e) := rfl
attribute [irreducible] aV sV sumV

theorem compare_meets (xs ys : List Int) (o1 o2 k1 k2 : Nat) (hx : ∀ x ∈ xs, 0 ≤ x ∧ x < 256) (hy : ∀ y ∈ ys, 0 ≤ y ∧ y < 256) : Meets Try.prog 74 [AV.slice 0 o1 xs.length k1, AV.slice 1 o2 ys.length k2] [AObj.ro o1 (ints .u8 xs), AObj.ro o2 (ints .u8 ys)] (AV.int .i64 (cmpI xs ys)) [AObj.ro o1 (ints .u8 xs), AObj.ro o2 (ints .u8 ys)] := by
  exact meets_of_exec (fn := Try.f74) 0 [.reg [], .reg [(2, {call := some ⟨[0, 1], [AV.slice 0 o1 xs.length k1, AV.slice 1 o2 ys.length k2], [AObj.ro o1 (ints .u8 xs), AObj.ro o2 (ints .u8 ys)], AV.int .i64 (cmpI xs ys), [AObj.ro o1 (ints .u8 xs), AObj.ro o2 (ints .u8 ys)]⟩, obj := some [AObj.ro o1 (ints .u8 xs), AObj.ro o2 (ints .u8 ys)]})]] [{}]
    (r := ⟨[[AV.slice 0 o1 xs.length k1, AV.slice 1 o2 ys.length k2] = renL [0, 1] [AV.slice 0 o1 xs.length k1, AV.slice 1 o2 ys.length k2],
        Meets Try.prog 82 [AV.slice 0 o1 xs.length k1, AV.slice 1 o2 ys.length k2] [AObj.ro o1 (ints .u8 xs), AObj.ro o2 (ints .u8 ys)] (AV.int .i64 (cmpI xs ys)) [AObj.ro o1 (ints .u8 xs), AObj.ro o2 (ints .u8 ys)],
        Fits (AObj.ro o1 (ints .u8 xs)) (AObj.ren [0, 1] (AObj.ro o1 (ints .u8 xs))),
        Fits (AObj.ro o2 (ints .u8 ys)) (AObj.ren [0, 1] (AObj.ro o2 (ints .u8 ys))),
        updOf [0, 1] [AObj.ro o1 (ints .u8 xs), AObj.ro o2 (ints .u8 ys)] [AObj.ro o1 (ints .u8 xs), AObj.ro o2 (ints .u8 ys)] [AObj.ro o1 (ints .u8 xs), AObj.ro o2 (ints .u8 ys)] ++ List.map (fun x => x.ren [0, 1]) (List.drop 2 [AObj.ro o1 (ints .u8 xs), AObj.ro o2 (ints .u8 ys)]) = [AObj.ro o1 (ints .u8 xs), AObj.ro o2 (ints .u8 ys)]],
      .ret, ⟨[some (AV.slice 0 o1 xs.length k1), some (AV.slice 1 o2 ys.length k2), none, none, some (AV.int .i64 (cmpI xs ys)), some (AV.slice 0 o1 xs.length k1), some (AV.slice 1 o2 ys.length k2), some (AV.int .i64 (cmpI xs ys))], [some (AObj.ro o1 (ints .u8 xs)), some (AObj.ro o2 (ints .u8 ys))]⟩, []⟩)
    (ob := [AV.int .i64 (cmpI xs ys) = AV.int .i64 (cmpI xs ys),
        AObj.ro o1 (ints .u8 xs) = AObj.ro o1 (ints .u8 xs),
        AvoidO (fun n => decide (2 ≤ n)) (AObj.ro o1 (ints .u8 xs)),
        AObj.ro o2 (ints .u8 ys) = AObj.ro o2 (ints .u8 ys),
        AvoidO (fun n => decide (2 ≤ n)) (AObj.ro o2 (ints .u8 ys))])
    Try.func74 (by kernel_rfl) Try.call74 (by kernel_rfl)
    ⟨rfl, meets_bytealg_compare (fn := Try.f82) Try.func82 (by kernel_rfl) (by kernel_rfl) (by kernel_rfl) (by kernel_rfl) xs ys o1 o2 k1 k2 hx hy, Fits.of_eq (by simp only [AObj.ren, renL, AV.ren, renL_ints, renL_u8s, renL_append]), Fits.of_eq (by simp only [AObj.ren, renL, AV.ren, renL_ints, renL_u8s, renL_append]), rfl, trivial⟩
    (.inl rfl) (by kernel_rfl) ⟨rfl, rfl, AvoidO.ro (AvoidL.ints _ _ _), rfl, AvoidO.ro (AvoidL.ints _ _ _), trivial⟩

theorem sum_meets (am ae bm be : Int) (ham : -1000000000000000 < am ∧ am < 1000000000000000) (hae : -18 ≤ ae ∧ ae ≤ 18) (hbm : -1000000000000000 < bm ∧ bm < 1000000000000000) (hbe : -18 ≤ be ∧ be ≤ 18) : Meets Try.prog 54 [AV.agg [AV.int .i64 am, AV.int .i64 ae, AV.int .i64 bm, AV.int .i64 be]] [] (AV.agg ((AV.bool (sumB am ae bm be)) :: (ints .u8 (digs 88 (sumV am ae bm be))))) [] := by
  have hx := aV_bounds ham hae
  have hy := aV_bounds hbm hbe
  by_cases c1 : (cmpI (digs 88 (aV am ae)) (digs 88 (aV bm be))) < 0
  · exact meets_of_exec (fn := Try.f54) 4 [.reg [(0, {nm := [0]}), (1, {nm := [1], obj := some [AObj.cells ((AV.bool false) :: (ints .u8 (List.replicate 88 0))) 50]})], .reg [(1, {val := some (AV.agg [AV.int .i64 am, AV.int .i64 ae])}), (2, {call := some ⟨[], [AV.agg [AV.int .i64 am, AV.int .i64 ae]], [], AV.agg ((AV.bool (decide (am < 0))) :: (ints .u8 (digs 88 (aV am ae)))), []⟩, val := some (AV.agg ((AV.bool (decide (am < 0))) :: (ints .u8 (digs 88 (aV am ae)))))}), (4, {val := some (AV.agg [AV.int .i64 bm, AV.int .i64 be])}), (5, {call := some ⟨[], [AV.agg [AV.int .i64 bm, AV.int .i64 be]], [], AV.agg ((AV.bool (decide (bm < 0))) :: (ints .u8 (digs 88 (aV bm be)))), []⟩, val := some (AV.agg ((AV.bool (decide (bm < 0))) :: (ints .u8 (digs 88 (aV bm be)))))}), (6, {nm := [2], obj := some [AObj.cells ((AV.bool false) :: (ints .u8 (List.replicate 88 0))) 50]}), (7, {nm := [3], obj := some [AObj.cells ((AV.bool false) :: (ints .u8 (List.replicate 88 0))) 50]}), (8, {obj := some [AObj.cells ((AV.bool (decide (am < 0))) :: (ints .u8 (digs 88 (aV am ae)))) 50]}), (9, {obj := some [AObj.cells ((AV.bool (decide (bm < 0))) :: (ints .u8 (digs 88 (aV bm be)))) 50]})], .reg [(1, {val := some (AV.slice 2 1 88 88)}), (3, {val := some (AV.slice 3 1 88 88)}), (4, {call := some ⟨[2, 3], [AV.slice 0 1 ((digs 88 (aV am ae)).length) 88, AV.slice 1 1 ((digs 88 (aV bm be)).length) 88], [AObj.ro 1 (ints .u8 (digs 88 (aV am ae))), AObj.ro 1 (ints .u8 (digs 88 (aV bm be)))], AV.int .i64 (cmpI (digs 88 (aV am ae)) (digs 88 (aV bm be))), [AObj.ro 1 (ints .u8 (digs 88 (aV am ae))), AObj.ro 1 (ints .u8 (digs 88 (aV bm be)))]⟩, obj := some [AObj.cells ((AV.bool (decide (am < 0))) :: (ints .u8 (digs 88 (aV am ae)))) 50, AObj.cells ((AV.bool (decide (bm < 0))) :: (ints .u8 (digs 88 (aV bm be)))) 50]}), (5, {val := some (AV.bool true)})], .reg [(0, {val := some (AV.agg ((AV.bool (decide (bm < 0))) :: (ints .u8 (digs 88 (aV bm be)))))}), (1, {val := some (AV.agg ((AV.bool (decide (am < 0))) :: (ints .u8 (digs 88 (aV am ae)))))}), (2, {call := some ⟨[], [AV.agg ((AV.bool (decide (bm < 0))) :: (ints .u8 (digs 88 (aV bm be)))), AV.agg ((AV.bool (decide (am < 0))) :: (ints .u8 (digs 88 (aV am ae))))], [], AV.agg ((AV.bool (decide (bm < 0))) :: (ints .u8 (digs 88 (sumV am ae bm be)))), []⟩, val := some (AV.agg ((AV.bool (decide (bm < 0))) :: (ints .u8 (digs 88 (sumV am ae bm be)))))}), (3, {obj := some [AObj.cells ((AV.bool (decide (bm < 0))) :: (ints .u8 (digs 88 (sumV am ae bm be)))) 50]})]] [{val := some (AV.agg ((AV.bool (decide (bm < 0))) :: (ints .u8 (digs 88 (sumV am ae bm be)))))}]
      (r := ⟨[AObj.cells (zeroCellsA Try.prog 50) 50 = AObj.cells ((AV.bool false) :: (ints .u8 (List.replicate 88 0))) 50,
          0 ≤ 0,
          0 - 0 + 2 ≤ List.length [AV.int .i64 am, AV.int .i64 ae, AV.int .i64 bm, AV.int .i64 be],
          List.take 2 (List.drop (0 - 0) [AV.int .i64 am, AV.int .i64 ae, AV.int .i64 bm, AV.int .i64 be]) = [AV.int .i64 am, AV.int .i64 ae],
          [AV.agg [AV.int .i64 am, AV.int .i64 ae]] = renL [] [AV.agg [AV.int .i64 am, AV.int .i64 ae]],
          Meets Try.prog 33 [AV.agg [AV.int .i64 am, AV.int .i64 ae]] [] (AV.agg ((AV.bool (decide (am < 0))) :: (ints .u8 (digs 88 (aV am ae))))) [],
          AV.ren [] (AV.agg ((AV.bool (decide (am < 0))) :: (ints .u8 (digs 88 (aV am ae))))) = AV.agg ((AV.bool (decide (am < 0))) :: (ints .u8 (digs 88 (aV am ae)))),
          0 ≤ 2,
          2 - 0 + 2 ≤ List.length [AV.int .i64 am, AV.int .i64 ae, AV.int .i64 bm, AV.int .i64 be],
          List.take 2 (List.drop (2 - 0) [AV.int .i64 am, AV.int .i64 ae, AV.int .i64 bm, AV.int .i64 be]) = [AV.int .i64 bm, AV.int .i64 be],
          [AV.agg [AV.int .i64 bm, AV.int .i64 be]] = renL [] [AV.agg [AV.int .i64 bm, AV.int .i64 be]],
          Meets Try.prog 33 [AV.agg [AV.int .i64 bm, AV.int .i64 be]] [] (AV.agg ((AV.bool (decide (bm < 0))) :: (ints .u8 (digs 88 (aV bm be))))) [],
          AV.ren [] (AV.agg ((AV.bool (decide (bm < 0))) :: (ints .u8 (digs 88 (aV bm be))))) = AV.agg ((AV.bool (decide (bm < 0))) :: (ints .u8 (digs 88 (aV bm be)))),
          AObj.cells (zeroCellsA Try.prog 50) 50 = AObj.cells ((AV.bool false) :: (ints .u8 (List.replicate 88 0))) 50,
          AObj.cells (zeroCellsA Try.prog 50) 50 = AObj.cells ((AV.bool false) :: (ints .u8 (List.replicate 88 0))) 50,
          ((AV.bool (decide (am < 0))) :: (ints .u8 (digs 88 (aV am ae))) : List AV).length = 89,
          0 + 89 ≤ List.length ((AV.bool false) :: (ints .u8 (List.replicate 88 0))),
          AObj.cells (List.take 0 ((AV.bool false) :: (ints .u8 (List.replicate 88 0))) ++ ((AV.bool (decide (am < 0))) :: (ints .u8 (digs 88 (aV am ae)))) ++ List.drop (0 + 89) ((AV.bool false) :: (ints .u8 (List.replicate 88 0)))) 50 = AObj.cells ((AV.bool (decide (am < 0))) :: (ints .u8 (digs 88 (aV am ae)))) 50,
          ((AV.bool (decide (bm < 0))) :: (ints .u8 (digs 88 (aV bm be))) : List AV).length = 89,
          0 + 89 ≤ List.length ((AV.bool false) :: (ints .u8 (List.replicate 88 0))),
          AObj.cells (List.take 0 ((AV.bool false) :: (ints .u8 (List.replicate 88 0))) ++ ((AV.bool (decide (bm < 0))) :: (ints .u8 (digs 88 (aV bm be)))) ++ List.drop (0 + 89) ((AV.bool false) :: (ints .u8 (List.replicate 88 0)))) 50 = AObj.cells ((AV.bool (decide (bm < 0))) :: (ints .u8 (digs 88 (aV bm be)))) 50,
          (0 : Nat) ≤ 88,
          (88 : Nat) ≤ 88,
          (88 : Nat) ≤ 88,
          AV.slice 2 (if 88 = 0 then 1 else 1 + 0 * 1) (88 - 0) (88 - 0) = AV.slice 2 1 88 88,
          (0 : Nat) ≤ 88,
          (88 : Nat) ≤ 88,
          (88 : Nat) ≤ 88,
          AV.slice 3 (if 88 = 0 then 1 else 1 + 0 * 1) (88 - 0) (88 - 0) = AV.slice 3 1 88 88,
          [AV.slice 2 1 88 88, AV.slice 3 1 88 88] = renL [2, 3] [AV.slice 0 1 ((digs 88 (aV am ae)).length) 88, AV.slice 1 1 ((digs 88 (aV bm be)).length) 88],
          Meets Try.prog 74 [AV.slice 0 1 ((digs 88 (aV am ae)).length) 88, AV.slice 1 1 ((digs 88 (aV bm be)).length) 88] [AObj.ro 1 (ints .u8 (digs 88 (aV am ae))), AObj.ro 1 (ints .u8 (digs 88 (aV bm be)))] (AV.int .i64 (cmpI (digs 88 (aV am ae)) (digs 88 (aV bm be)))) [AObj.ro 1 (ints .u8 (digs 88 (aV am ae))), AObj.ro 1 (ints .u8 (digs 88 (aV bm be)))],
          Fits (AObj.cells ((AV.bool (decide (am < 0))) :: (ints .u8 (digs 88 (aV am ae)))) 50) (AObj.ren [2, 3] (AObj.ro 1 (ints .u8 (digs 88 (aV am ae))))),
          Fits (AObj.cells ((AV.bool (decide (bm < 0))) :: (ints .u8 (digs 88 (aV bm be)))) 50) (AObj.ren [2, 3] (AObj.ro 1 (ints .u8 (digs 88 (aV bm be))))),
          updOf [2, 3] [AObj.cells ((AV.bool (decide (am < 0))) :: (ints .u8 (digs 88 (aV am ae)))) 50, AObj.cells ((AV.bool (decide (bm < 0))) :: (ints .u8 (digs 88 (aV bm be)))) 50] [AObj.ro 1 (ints .u8 (digs 88 (aV am ae))), AObj.ro 1 (ints .u8 (digs 88 (aV bm be)))] [AObj.ro 1 (ints .u8 (digs 88 (aV am ae))), AObj.ro 1 (ints .u8 (digs 88 (aV bm be)))] ++ List.map (fun x => x.ren [2, 3]) (List.drop 2 [AObj.ro 1 (ints .u8 (digs 88 (aV am ae))), AObj.ro 1 (ints .u8 (digs 88 (aV bm be)))]) = [AObj.cells ((AV.bool (decide (am < 0))) :: (ints .u8 (digs 88 (aV am ae)))) 50, AObj.cells ((AV.bool (decide (bm < 0))) :: (ints .u8 (digs 88 (aV bm be)))) 50],
          AV.bool (decide ((cmpI (digs 88 (aV am ae)) (digs 88 (aV bm be))) < 0)) = AV.bool true,
          0 ≤ 0,
          0 - 0 + 89 ≤ List.length ((AV.bool (decide (bm < 0))) :: (ints .u8 (digs 88 (aV bm be)))),
          List.take 89 (List.drop (0 - 0) ((AV.bool (decide (bm < 0))) :: (ints .u8 (digs 88 (aV bm be))))) = (AV.bool (decide (bm < 0))) :: (ints .u8 (digs 88 (aV bm be))),
          0 ≤ 0,
          0 - 0 + 89 ≤ List.length ((AV.bool (decide (am < 0))) :: (ints .u8 (digs 88 (aV am ae)))),
          List.take 89 (List.drop (0 - 0) ((AV.bool (decide (am < 0))) :: (ints .u8 (digs 88 (aV am ae))))) = (AV.bool (decide (am < 0))) :: (ints .u8 (digs 88 (aV am ae))),
          [AV.agg ((AV.bool (decide (bm < 0))) :: (ints .u8 (digs 88 (aV bm be)))), AV.agg ((AV.bool (decide (am < 0))) :: (ints .u8 (digs 88 (aV am ae))))] = renL [] [AV.agg ((AV.bool (decide (bm < 0))) :: (ints .u8 (digs 88 (aV bm be)))), AV.agg ((AV.bool (decide (am < 0))) :: (ints .u8 (digs 88 (aV am ae))))],
          Meets Try.prog 60 [AV.agg ((AV.bool (decide (bm < 0))) :: (ints .u8 (digs 88 (aV bm be)))), AV.agg ((AV.bool (decide (am < 0))) :: (ints .u8 (digs 88 (aV am ae))))] [] (AV.agg ((AV.bool (decide (bm < 0))) :: (ints .u8 (digs 88 (sumV am ae bm be))))) [],
          AV.ren [] (AV.agg ((AV.bool (decide (bm < 0))) :: (ints .u8 (digs 88 (sumV am ae bm be))))) = AV.agg ((AV.bool (decide (bm < 0))) :: (ints .u8 (digs 88 (sumV am ae bm be)))),
          ((AV.bool (decide (bm < 0))) :: (ints .u8 (digs 88 (sumV am ae bm be))) : List AV).length = 89,
          0 + 89 ≤ List.length ((AV.bool false) :: (ints .u8 (List.replicate 88 0))),
          AObj.cells (List.take 0 ((AV.bool false) :: (ints .u8 (List.replicate 88 0))) ++ ((AV.bool (decide (bm < 0))) :: (ints .u8 (digs 88 (sumV am ae bm be)))) ++ List.drop (0 + 89) ((AV.bool false) :: (ints .u8 (List.replicate 88 0)))) 50 = AObj.cells ((AV.bool (decide (bm < 0))) :: (ints .u8 (digs 88 (sumV am ae bm be)))) 50],
        .ret, ⟨[some (AV.agg [AV.int .i64 am, AV.int .i64 ae, AV.int .i64 bm, AV.int .i64 be]), some (AV.ptr 0 0), some (AV.ptr 1 0), some (AV.ptr 2 0), some (AV.ptr 3 0), some (AV.ptr 0 0), some (AV.agg [AV.int .i64 am, AV.int .i64 ae]), some (AV.agg ((AV.bool (decide (am < 0))) :: (ints .u8 (digs 88 (aV am ae))))), some (AV.ptr 0 2), some (AV.agg [AV.int .i64 bm, AV.int .i64 be]), some (AV.agg ((AV.bool (decide (bm < 0))) :: (ints .u8 (digs 88 (aV bm be))))), some (AV.ptr 2 1), some (AV.slice 2 1 88 88), some (AV.ptr 3 1), some (AV.slice 3 1 88 88), some (AV.int .i64 (cmpI (digs 88 (aV am ae)) (digs 88 (aV bm be)))), some (AV.bool true), some (AV.agg ((AV.bool (decide (bm < 0))) :: (ints .u8 (digs 88 (aV bm be))))), some (AV.agg ((AV.bool (decide (am < 0))) :: (ints .u8 (digs 88 (aV am ae))))), some (AV.agg ((AV.bool (decide (bm < 0))) :: (ints .u8 (digs 88 (sumV am ae bm be))))), none, none, none], [some (AObj.cells [AV.int .i64 am, AV.int .i64 ae, AV.int .i64 bm, AV.int .i64 be] 65), some (AObj.cells ((AV.bool (decide (bm < 0))) :: (ints .u8 (digs 88 (sumV am ae bm be)))) 50), some (AObj.cells ((AV.bool (decide (am < 0))) :: (ints .u8 (digs 88 (aV am ae)))) 50), some (AObj.cells ((AV.bool (decide (bm < 0))) :: (ints .u8 (digs 88 (aV bm be)))) 50)]⟩, []⟩)
      (ob := [0 ≤ 0,
          0 - 0 + 89 ≤ List.length ((AV.bool (decide (bm < 0))) :: (ints .u8 (digs 88 (sumV am ae bm be)))),
          List.take 89 (List.drop (0 - 0) ((AV.bool (decide (bm < 0))) :: (ints .u8 (digs 88 (sumV am ae bm be))))) = (AV.bool (decide (bm < 0))) :: (ints .u8 (digs 88 (sumV am ae bm be))),
          AV.agg ((AV.bool (decide (bm < 0))) :: (ints .u8 (digs 88 (sumV am ae bm be)))) = AV.agg ((AV.bool (sumB am ae bm be)) :: (ints .u8 (digs 88 (sumV am ae bm be)))),
          Avoid (fun n => decide (0 ≤ n)) (AV.agg ((AV.bool (sumB am ae bm be)) :: (ints .u8 (digs 88 (sumV am ae bm be)))))])
      Try.func54 (by kernel_rfl) Try.call54 (by kernel_rfl)
      ⟨by kernel_rfl, Nat.zero_le _, Nat.le_of_ble_eq_true rfl, rfl, rfl, lay_meets am ae _ (by omega) (by omega) (digs_aV _ _), by simp only [renL, AV.ren, renL_ints, renL_u8s, renL_append], Nat.zero_le _, Nat.le_of_ble_eq_true rfl, rfl, rfl, lay_meets bm be _ (by omega) (by omega) (digs_aV _ _), by simp only [renL, AV.ren, renL_ints, renL_u8s, renL_append], by kernel_rfl, by kernel_rfl, (by simp only [List.length_cons, List.length_nil, List.length_append, ints_length, u8s_length, List.length_replicate, List.length_set, List.length_map, digs_length] <;> omega), (by simp only [List.length_cons, List.length_nil, List.length_append, ints_length, u8s_length, List.length_replicate, List.length_set, List.length_map, digs_length] <;> omega), store_whole (by simp only [List.length_cons, List.length_nil, List.length_append, ints_length, u8s_length, List.length_replicate, List.length_set, List.length_map, digs_length] <;> omega), (by simp only [List.length_cons, List.length_nil, List.length_append, ints_length, u8s_length, List.length_replicate, List.length_set, List.length_map, digs_length] <;> omega), (by simp only [List.length_cons, List.length_nil, List.length_append, ints_length, u8s_length, List.length_replicate, List.length_set, List.length_map, digs_length] <;> omega), store_whole (by simp only [List.length_cons, List.length_nil, List.length_append, ints_length, u8s_length, List.length_replicate, List.length_set, List.length_map, digs_length] <;> omega), by omega, by omega, by omega, by kernel_rfl, by omega, by omega, by omega, by kernel_rfl, by simp only [renL, AV.ren, digs_length]; rfl, compare_meets _ _ 1 1 88 88 (Dig.u8 (digs_dig _ _)) (Dig.u8 (digs_dig _ _)), fits_fig (i := 0) _ rfl (by rw [List.drop_zero, List.take_length]), fits_fig (i := 0) _ rfl (by rw [List.drop_zero, List.take_length]), rfl, bT c1, Nat.zero_le _, (by simp only [List.length_cons, List.length_nil, List.length_append, ints_length, u8s_length, List.length_replicate, List.length_set, List.length_map, digs_length] <;> omega), whole_cells (by simp only [List.length_cons, List.length_nil, List.length_append, ints_length, u8s_length, List.length_replicate, List.length_set, List.length_map, digs_length] <;> omega), Nat.zero_le _, (by simp only [List.length_cons, List.length_nil, List.length_append, ints_length, u8s_length, List.length_replicate, List.length_set, List.length_map, digs_length] <;> omega), whole_cells (by simp only [List.length_cons, List.length_nil, List.length_append, ints_length, u8s_length, List.length_replicate, List.length_set, List.length_map, digs_length] <;> omega), by simp only [renL, AV.ren, renL_ints, renL_u8s, renL_append], added_meets (decide (bm < 0)) (decide (am < 0)) _ _ (digs_dig _ _) (digs_dig _ _) (digs_length _ _) (digs_length _ _) _ (by rw [sumV, Int.add_comm]; exact sgn_sV bm be am ae hbm hbe ham hae (Int.le_of_lt ((cmp_digs hx hy).1 c1))), by simp only [renL, AV.ren, renL_ints, renL_u8s, renL_append], (by simp only [List.length_cons, List.length_nil, List.length_append, ints_length, u8s_length, List.length_replicate, List.length_set, List.length_map, digs_length] <;> omega), (by simp only [List.length_cons, List.length_nil, List.length_append, ints_length, u8s_length, List.length_replicate, List.length_set, List.length_map, digs_length] <;> omega), store_whole (by simp only [List.length_cons, List.length_nil, List.length_append, ints_length, u8s_length, List.length_replicate, List.length_set, List.length_map, digs_length] <;> omega), trivial⟩
      (.inl rfl) (by kernel_rfl) ⟨Nat.zero_le _, (by simp only [List.length_cons, List.length_nil, List.length_append, ints_length, u8s_length, List.length_replicate, List.length_set, List.length_map, digs_length] <;> omega), whole_cells (by simp only [List.length_cons, List.length_nil, List.length_append, ints_length, u8s_length, List.length_replicate, List.length_set, List.length_map, digs_length] <;> omega), by rw [show sumB am ae bm be = decide (bm < 0) by simp only [sumB, cmp_digs hx hy] at c1 ⊢; simp only [c1, if_true, if_false]], Avoid.agg (AvoidL.cons (Avoid.bool _ _) (AvoidL.ints _ _ _)), trivial⟩
  · exact meets_of_exec (fn := Try.f54) 4 [.reg [(0, {nm := [0]}), (1, {nm := [1], obj := some [AObj.cells ((AV.bool false) :: (ints .u8 (List.replicate 88 0))) 50]})], .reg [(1, {val := some (AV.agg [AV.int .i64 am, AV.int .i64 ae])}), (2, {call := some ⟨[], [AV.agg [AV.int .i64 am, AV.int .i64 ae]], [], AV.agg ((AV.bool (decide (am < 0))) :: (ints .u8 (digs 88 (aV am ae)))), []⟩, val := some (AV.agg ((AV.bool (decide (am < 0))) :: (ints .u8 (digs 88 (aV am ae)))))}), (4, {val := some (AV.agg [AV.int .i64 bm, AV.int .i64 be])}), (5, {call := some ⟨[], [AV.agg [AV.int .i64 bm, AV.int .i64 be]], [], AV.agg ((AV.bool (decide (bm < 0))) :: (ints .u8 (digs 88 (aV bm be)))), []⟩, val := some (AV.agg ((AV.bool (decide (bm < 0))) :: (ints .u8 (digs 88 (aV bm be)))))}), (6, {nm := [2], obj := some [AObj.cells ((AV.bool false) :: (ints .u8 (List.replicate 88 0))) 50]}), (7, {nm := [3], obj := some [AObj.cells ((AV.bool false) :: (ints .u8 (List.replicate 88 0))) 50]}), (8, {obj := some [AObj.cells ((AV.bool (decide (am < 0))) :: (ints .u8 (digs 88 (aV am ae)))) 50]}), (9, {obj := some [AObj.cells ((AV.bool (decide (bm < 0))) :: (ints .u8 (digs 88 (aV bm be)))) 50]})], .reg [(1, {val := some (AV.slice 2 1 88 88)}), (3, {val := some (AV.slice 3 1 88 88)}), (4, {call := some ⟨[2, 3], [AV.slice 0 1 ((digs 88 (aV am ae)).length) 88, AV.slice 1 1 ((digs 88 (aV bm be)).length) 88], [AObj.ro 1 (ints .u8 (digs 88 (aV am ae))), AObj.ro 1 (ints .u8 (digs 88 (aV bm be)))], AV.int .i64 (cmpI (digs 88 (aV am ae)) (digs 88 (aV bm be))), [AObj.ro 1 (ints .u8 (digs 88 (aV am ae))), AObj.ro 1 (ints .u8 (digs 88 (aV bm be)))]⟩, obj := some [AObj.cells ((AV.bool (decide (am < 0))) :: (ints .u8 (digs 88 (aV am ae)))) 50, AObj.cells ((AV.bool (decide (bm < 0))) :: (ints .u8 (digs 88 (aV bm be)))) 50]}), (5, {val := some (AV.bool false)})], .reg [(0, {val := some (AV.agg ((AV.bool (decide (am < 0))) :: (ints .u8 (digs 88 (aV am ae)))))}), (1, {val := some (AV.agg ((AV.bool (decide (bm < 0))) :: (ints .u8 (digs 88 (aV bm be)))))}), (2, {call := some ⟨[], [AV.agg ((AV.bool (decide (am < 0))) :: (ints .u8 (digs 88 (aV am ae)))), AV.agg ((AV.bool (decide (bm < 0))) :: (ints .u8 (digs 88 (aV bm be))))], [], AV.agg ((AV.bool (decide (am < 0))) :: (ints .u8 (digs 88 (sumV am ae bm be)))), []⟩, val := some (AV.agg ((AV.bool (decide (am < 0))) :: (ints .u8 (digs 88 (sumV am ae bm be)))))}), (3, {obj := some [AObj.cells ((AV.bool (decide (am < 0))) :: (ints .u8 (digs 88 (sumV am ae bm be)))) 50]})]] [{val := some (AV.agg ((AV.bool (decide (am < 0))) :: (ints .u8 (digs 88 (sumV am ae bm be)))))}]
      (r := ⟨[AObj.cells (zeroCellsA Try.prog 50) 50 = AObj.cells ((AV.bool false) :: (ints .u8 (List.replicate 88 0))) 50,
          0 ≤ 0,
          0 - 0 + 2 ≤ List.length [AV.int .i64 am, AV.int .i64 ae, AV.int .i64 bm, AV.int .i64 be],
          List.take 2 (List.drop (0 - 0) [AV.int .i64 am, AV.int .i64 ae, AV.int .i64 bm, AV.int .i64 be]) = [AV.int .i64 am, AV.int .i64 ae],
          [AV.agg [AV.int .i64 am, AV.int .i64 ae]] = renL [] [AV.agg [AV.int .i64 am, AV.int .i64 ae]],
          Meets Try.prog 33 [AV.agg [AV.int .i64 am, AV.int .i64 ae]] [] (AV.agg ((AV.bool (decide (am < 0))) :: (ints .u8 (digs 88 (aV am ae))))) [],
          AV.ren [] (AV.agg ((AV.bool (decide (am < 0))) :: (ints .u8 (digs 88 (aV am ae))))) = AV.agg ((AV.bool (decide (am < 0))) :: (ints .u8 (digs 88 (aV am ae)))),
          0 ≤ 2,
          2 - 0 + 2 ≤ List.length [AV.int .i64 am, AV.int .i64 ae, AV.int .i64 bm, AV.int .i64 be],
          List.take 2 (List.drop (2 - 0) [AV.int .i64 am, AV.int .i64 ae, AV.int .i64 bm, AV.int .i64 be]) = [AV.int .i64 bm, AV.int .i64 be],
          [AV.agg [AV.int .i64 bm, AV.int .i64 be]] = renL [] [AV.agg [AV.int .i64 bm, AV.int .i64 be]],
          Meets Try.prog 33 [AV.agg [AV.int .i64 bm, AV.int .i64 be]] [] (AV.agg ((AV.bool (decide (bm < 0))) :: (ints .u8 (digs 88 (aV bm be))))) [],
          AV.ren [] (AV.agg ((AV.bool (decide (bm < 0))) :: (ints .u8 (digs 88 (aV bm be))))) = AV.agg ((AV.bool (decide (bm < 0))) :: (ints .u8 (digs 88 (aV bm be)))),
          AObj.cells (zeroCellsA Try.prog 50) 50 = AObj.cells ((AV.bool false) :: (ints .u8 (List.replicate 88 0))) 50,
          AObj.cells (zeroCellsA Try.prog 50) 50 = AObj.cells ((AV.bool false) :: (ints .u8 (List.replicate 88 0))) 50,
          ((AV.bool (decide (am < 0))) :: (ints .u8 (digs 88 (aV am ae))) : List AV).length = 89,
          0 + 89 ≤ List.length ((AV.bool false) :: (ints .u8 (List.replicate 88 0))),
          AObj.cells (List.take 0 ((AV.bool false) :: (ints .u8 (List.replicate 88 0))) ++ ((AV.bool (decide (am < 0))) :: (ints .u8 (digs 88 (aV am ae)))) ++ List.drop (0 + 89) ((AV.bool false) :: (ints .u8 (List.replicate 88 0)))) 50 = AObj.cells ((AV.bool (decide (am < 0))) :: (ints .u8 (digs 88 (aV am ae)))) 50,
          ((AV.bool (decide (bm < 0))) :: (ints .u8 (digs 88 (aV bm be))) : List AV).length = 89,
          0 + 89 ≤ List.length ((AV.bool false) :: (ints .u8 (List.replicate 88 0))),
          AObj.cells (List.take 0 ((AV.bool false) :: (ints .u8 (List.replicate 88 0))) ++ ((AV.bool (decide (bm < 0))) :: (ints .u8 (digs 88 (aV bm be)))) ++ List.drop (0 + 89) ((AV.bool false) :: (ints .u8 (List.replicate 88 0)))) 50 = AObj.cells ((AV.bool (decide (bm < 0))) :: (ints .u8 (digs 88 (aV bm be)))) 50,
          (0 : Nat) ≤ 88,
          (88 : Nat) ≤ 88,
          (88 : Nat) ≤ 88,
          AV.slice 2 (if 88 = 0 then 1 else 1 + 0 * 1) (88 - 0) (88 - 0) = AV.slice 2 1 88 88,
          (0 : Nat) ≤ 88,
          (88 : Nat) ≤ 88,
          (88 : Nat) ≤ 88,
          AV.slice 3 (if 88 = 0 then 1 else 1 + 0 * 1) (88 - 0) (88 - 0) = AV.slice 3 1 88 88,
          [AV.slice 2 1 88 88, AV.slice 3 1 88 88] = renL [2, 3] [AV.slice 0 1 ((digs 88 (aV am ae)).length) 88, AV.slice 1 1 ((digs 88 (aV bm be)).length) 88],
          Meets Try.prog 74 [AV.slice 0 1 ((digs 88 (aV am ae)).length) 88, AV.slice 1 1 ((digs 88 (aV bm be)).length) 88] [AObj.ro 1 (ints .u8 (digs 88 (aV am ae))), AObj.ro 1 (ints .u8 (digs 88 (aV bm be)))] (AV.int .i64 (cmpI (digs 88 (aV am ae)) (digs 88 (aV bm be)))) [AObj.ro 1 (ints .u8 (digs 88 (aV am ae))), AObj.ro 1 (ints .u8 (digs 88 (aV bm be)))],
          Fits (AObj.cells ((AV.bool (decide (am < 0))) :: (ints .u8 (digs 88 (aV am ae)))) 50) (AObj.ren [2, 3] (AObj.ro 1 (ints .u8 (digs 88 (aV am ae))))),
          Fits (AObj.cells ((AV.bool (decide (bm < 0))) :: (ints .u8 (digs 88 (aV bm be)))) 50) (AObj.ren [2, 3] (AObj.ro 1 (ints .u8 (digs 88 (aV bm be))))),
          updOf [2, 3] [AObj.cells ((AV.bool (decide (am < 0))) :: (ints .u8 (digs 88 (aV am ae)))) 50, AObj.cells ((AV.bool (decide (bm < 0))) :: (ints .u8 (digs 88 (aV bm be)))) 50] [AObj.ro 1 (ints .u8 (digs 88 (aV am ae))), AObj.ro 1 (ints .u8 (digs 88 (aV bm be)))] [AObj.ro 1 (ints .u8 (digs 88 (aV am ae))), AObj.ro 1 (ints .u8 (digs 88 (aV bm be)))] ++ List.map (fun x => x.ren [2, 3]) (List.drop 2 [AObj.ro 1 (ints .u8 (digs 88 (aV am ae))), AObj.ro 1 (ints .u8 (digs 88 (aV bm be)))]) = [AObj.cells ((AV.bool (decide (am < 0))) :: (ints .u8 (digs 88 (aV am ae)))) 50, AObj.cells ((AV.bool (decide (bm < 0))) :: (ints .u8 (digs 88 (aV bm be)))) 50],
          AV.bool (decide ((cmpI (digs 88 (aV am ae)) (digs 88 (aV bm be))) < 0)) = AV.bool false,
          0 ≤ 0,
          0 - 0 + 89 ≤ List.length ((AV.bool (decide (am < 0))) :: (ints .u8 (digs 88 (aV am ae)))),
          List.take 89 (List.drop (0 - 0) ((AV.bool (decide (am < 0))) :: (ints .u8 (digs 88 (aV am ae))))) = (AV.bool (decide (am < 0))) :: (ints .u8 (digs 88 (aV am ae))),
          0 ≤ 0,
          0 - 0 + 89 ≤ List.length ((AV.bool (decide (bm < 0))) :: (ints .u8 (digs 88 (aV bm be)))),
          List.take 89 (List.drop (0 - 0) ((AV.bool (decide (bm < 0))) :: (ints .u8 (digs 88 (aV bm be))))) = (AV.bool (decide (bm < 0))) :: (ints .u8 (digs 88 (aV bm be))),
          [AV.agg ((AV.bool (decide (am < 0))) :: (ints .u8 (digs 88 (aV am ae)))), AV.agg ((AV.bool (decide (bm < 0))) :: (ints .u8 (digs 88 (aV bm be))))] = renL [] [AV.agg ((AV.bool (decide (am < 0))) :: (ints .u8 (digs 88 (aV am ae)))), AV.agg ((AV.bool (decide (bm < 0))) :: (ints .u8 (digs 88 (aV bm be))))],
          Meets Try.prog 60 [AV.agg ((AV.bool (decide (am < 0))) :: (ints .u8 (digs 88 (aV am ae)))), AV.agg ((AV.bool (decide (bm < 0))) :: (ints .u8 (digs 88 (aV bm be))))] [] (AV.agg ((AV.bool (decide (am < 0))) :: (ints .u8 (digs 88 (sumV am ae bm be))))) [],
          AV.ren [] (AV.agg ((AV.bool (decide (am < 0))) :: (ints .u8 (digs 88 (sumV am ae bm be))))) = AV.agg ((AV.bool (decide (am < 0))) :: (ints .u8 (digs 88 (sumV am ae bm be)))),
          ((AV.bool (decide (am < 0))) :: (ints .u8 (digs 88 (sumV am ae bm be))) : List AV).length = 89,
          0 + 89 ≤ List.length ((AV.bool false) :: (ints .u8 (List.replicate 88 0))),
          AObj.cells (List.take 0 ((AV.bool false) :: (ints .u8 (List.replicate 88 0))) ++ ((AV.bool (decide (am < 0))) :: (ints .u8 (digs 88 (sumV am ae bm be)))) ++ List.drop (0 + 89) ((AV.bool false) :: (ints .u8 (List.replicate 88 0)))) 50 = AObj.cells ((AV.bool (decide (am < 0))) :: (ints .u8 (digs 88 (sumV am ae bm be)))) 50],
        .ret, ⟨[some (AV.agg [AV.int .i64 am, AV.int .i64 ae, AV.int .i64 bm, AV.int .i64 be]), some (AV.ptr 0 0), some (AV.ptr 1 0), some (AV.ptr 2 0), some (AV.ptr 3 0), some (AV.ptr 0 0), some (AV.agg [AV.int .i64 am, AV.int .i64 ae]), some (AV.agg ((AV.bool (decide (am < 0))) :: (ints .u8 (digs 88 (aV am ae))))), some (AV.ptr 0 2), some (AV.agg [AV.int .i64 bm, AV.int .i64 be]), some (AV.agg ((AV.bool (decide (bm < 0))) :: (ints .u8 (digs 88 (aV bm be))))), some (AV.ptr 2 1), some (AV.slice 2 1 88 88), some (AV.ptr 3 1), some (AV.slice 3 1 88 88), some (AV.int .i64 (cmpI (digs 88 (aV am ae)) (digs 88 (aV bm be)))), some (AV.bool false), none, none, none, some (AV.agg ((AV.bool (decide (am < 0))) :: (ints .u8 (digs 88 (aV am ae))))), some (AV.agg ((AV.bool (decide (bm < 0))) :: (ints .u8 (digs 88 (aV bm be))))), some (AV.agg ((AV.bool (decide (am < 0))) :: (ints .u8 (digs 88 (sumV am ae bm be)))))], [some (AObj.cells [AV.int .i64 am, AV.int .i64 ae, AV.int .i64 bm, AV.int .i64 be] 65), some (AObj.cells ((AV.bool (decide (am < 0))) :: (ints .u8 (digs 88 (sumV am ae bm be)))) 50), some (AObj.cells ((AV.bool (decide (am < 0))) :: (ints .u8 (digs 88 (aV am ae)))) 50), some (AObj.cells ((AV.bool (decide (bm < 0))) :: (ints .u8 (digs 88 (aV bm be)))) 50)]⟩, []⟩)
      (ob := [0 ≤ 0,
          0 - 0 + 89 ≤ List.length ((AV.bool (decide (am < 0))) :: (ints .u8 (digs 88 (sumV am ae bm be)))),
          List.take 89 (List.drop (0 - 0) ((AV.bool (decide (am < 0))) :: (ints .u8 (digs 88 (sumV am ae bm be))))) = (AV.bool (decide (am < 0))) :: (ints .u8 (digs 88 (sumV am ae bm be))),
          AV.agg ((AV.bool (decide (am < 0))) :: (ints .u8 (digs 88 (sumV am ae bm be)))) = AV.agg ((AV.bool (sumB am ae bm be)) :: (ints .u8 (digs 88 (sumV am ae bm be)))),
          Avoid (fun n => decide (0 ≤ n)) (AV.agg ((AV.bool (sumB am ae bm be)) :: (ints .u8 (digs 88 (sumV am ae bm be)))))])
      Try.func54 (by kernel_rfl) Try.call54 (by kernel_rfl)
      ⟨by kernel_rfl, Nat.zero_le _, Nat.le_of_ble_eq_true rfl, rfl, rfl, lay_meets am ae _ (by omega) (by omega) (digs_aV _ _), by simp only [renL, AV.ren, renL_ints, renL_u8s, renL_append], Nat.zero_le _, Nat.le_of_ble_eq_true rfl, rfl, rfl, lay_meets bm be _ (by omega) (by omega) (digs_aV _ _), by simp only [renL, AV.ren, renL_ints, renL_u8s, renL_append], by kernel_rfl, by kernel_rfl, (by simp only [List.length_cons, List.length_nil, List.length_append, ints_length, u8s_length, List.length_replicate, List.length_set, List.length_map, digs_length] <;> omega), (by simp only [List.length_cons, List.length_nil, List.length_append, ints_length, u8s_length, List.length_replicate, List.length_set, List.length_map, digs_length] <;> omega), store_whole (by simp only [List.length_cons, List.length_nil, List.length_append, ints_length, u8s_length, List.length_replicate, List.length_set, List.length_map, digs_length] <;> omega), (by simp only [List.length_cons, List.length_nil, List.length_append, ints_length, u8s_length, List.length_replicate, List.length_set, List.length_map, digs_length] <;> omega), (by simp only [List.length_cons, List.length_nil, List.length_append, ints_length, u8s_length, List.length_replicate, List.length_set, List.length_map, digs_length] <;> omega), store_whole (by simp only [List.length_cons, List.length_nil, List.length_append, ints_length, u8s_length, List.length_replicate, List.length_set, List.length_map, digs_length] <;> omega), by omega, by omega, by omega, by kernel_rfl, by omega, by omega, by omega, by kernel_rfl, by simp only [renL, AV.ren, digs_length]; rfl, compare_meets _ _ 1 1 88 88 (Dig.u8 (digs_dig _ _)) (Dig.u8 (digs_dig _ _)), fits_fig (i := 0) _ rfl (by rw [List.drop_zero, List.take_length]), fits_fig (i := 0) _ rfl (by rw [List.drop_zero, List.take_length]), rfl, bF c1, Nat.zero_le _, (by simp only [List.length_cons, List.length_nil, List.length_append, ints_length, u8s_length, List.length_replicate, List.length_set, List.length_map, digs_length] <;> omega), whole_cells (by simp only [List.length_cons, List.length_nil, List.length_append, ints_length, u8s_length, List.length_replicate, List.length_set, List.length_map, digs_length] <;> omega), Nat.zero_le _, (by simp only [List.length_cons, List.length_nil, List.length_append, ints_length, u8s_length, List.length_replicate, List.length_set, List.length_map, digs_length] <;> omega), whole_cells (by simp only [List.length_cons, List.length_nil, List.length_append, ints_length, u8s_length, List.length_replicate, List.length_set, List.length_map, digs_length] <;> omega), by simp only [renL, AV.ren, renL_ints, renL_u8s, renL_append], added_meets (decide (am < 0)) (decide (bm < 0)) _ _ (digs_dig _ _) (digs_dig _ _) (digs_length _ _) (digs_length _ _) _ (by rw [sumV]; exact sgn_sV am ae bm be ham hae hbm hbe (Int.not_lt.1 fun h => c1 ((cmp_digs hx hy).2 h))), by simp only [renL, AV.ren, renL_ints, renL_u8s, renL_append], (by simp only [List.length_cons, List.length_nil, List.length_append, ints_length, u8s_length, List.length_replicate, List.length_set, List.length_map, digs_length] <;> omega), (by simp only [List.length_cons, List.length_nil, List.length_append, ints_length, u8s_length, List.length_replicate, List.length_set, List.length_map, digs_length] <;> omega), store_whole (by simp only [List.length_cons, List.length_nil, List.length_append, ints_length, u8s_length, List.length_replicate, List.length_set, List.length_map, digs_length] <;> omega), trivial⟩
      (.inl rfl) (by kernel_rfl) ⟨Nat.zero_le _, (by simp only [List.length_cons, List.length_nil, List.length_append, ints_length, u8s_length, List.length_replicate, List.length_set, List.length_map, digs_length] <;> omega), whole_cells (by simp only [List.length_cons, List.length_nil, List.length_append, ints_length, u8s_length, List.length_replicate, List.length_set, List.length_map, digs_length] <;> omega), by rw [show sumB am ae bm be = decide (am < 0) by simp only [sumB, cmp_digs hx hy] at c1 ⊢; simp only [c1, if_true, if_false]], Avoid.agg (AvoidL.cons (Avoid.bool _ _) (AvoidL.ints _ _ _)), trivial⟩

end Go.Proofs.Ytabgphldbgdbpaa
