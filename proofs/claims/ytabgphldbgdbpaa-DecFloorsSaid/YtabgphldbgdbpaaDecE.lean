import Derived.Test.YtabgphldbgdbpaaDecD
set_option linter.unusedVariables false
set_option linter.unusedSimpArgs false
set_option maxRecDepth 20000
namespace Go.Proofs.Ytabgphldbgdbpaa
open Go Sx Dc

def sgnOf (a b : Bool) : Int := if a = b then 1 else -1

def added_inv (mx my : Bool) (ys : List Int) (s : Int) (zs : List Int) (c ii : Int) : AState :=
  ⟨[none, none, some (AV.ptr 0 0), some (AV.ptr 1 0), some (AV.ptr 2 0), some (AV.int .i64 s), some (AV.int .i64 c), some (AV.int .i64 ii), none, none, none, none, none, none, none, none, none, none, none, none, none, none, none, none, none, none, none, none, none, none, none, none, none, none, none, none, none, none, none, none, none, none, none, none], [some (AObj.cells ((AV.bool mx) :: (ints .u8 zs)) 50), some (AObj.cells ((AV.bool my) :: (ints .u8 ys)) 50), some (AObj.cells ((AV.bool false) :: (ints .u8 (List.replicate 88 0))) 50)]⟩

theorem added_round (mx my : Bool) (ys : List Int) (s : Int) (zs : List Int) (c : Int) (k : Nat) (hk : k < 88) (hz : zs.length = 88) (hy : ys.length = 88) (h1 : 0 ≤ zs.getD k 0 ∧ zs.getD k 0 ≤ 9) (h2 : -9 ≤ s * ys.getD k 0 ∧ s * ys.getD k 0 ≤ 9) (h3 : -1 ≤ c ∧ c ≤ 1) (h4 : 0 ≤ ys.getD k 0 ∧ ys.getD k 0 ≤ 9) : Tri Try.prog (loopN (bodyOf Try.f60) 0) (added_inv mx my ys s zs c k) .normal (added_inv mx my ys s (zs.set k ((10 + zs.getD k 0 + s * ys.getD k 0 + c) % 10)) ((10 + zs.getD k 0 + s * ys.getD k 0 + c) / 10 - 1) ((k : Int) - 1)) := by
  exact Tri.weak (ob := [AV.ptr 0 0 = AV.ptr 0 0,
        AV.ptr 1 0 = AV.ptr 1 0,
        AV.ptr 2 0 = AV.ptr 2 0,
        AV.int .i64 s = AV.int .i64 s,
        AV.int .i64 (((((10 + (zs.getD k 0)) + (s * ys.getD k 0)) + c) / 10) - 1) = AV.int .i64 ((10 + zs.getD k 0 + s * ys.getD k 0 + c) / 10 - 1),
        AV.int .i64 (((k : Nat) : Int) - 1) = AV.int .i64 ((k : Int) - 1),
        AObj.cells ((AV.bool mx) :: (ints .u8 (zs.set k ((((10 + (zs.getD k 0)) + (s * ys.getD k 0)) + c) % 10)))) 50 = AObj.cells ((AV.bool mx) :: (ints .u8 (zs.set k ((10 + zs.getD k 0 + s * ys.getD k 0 + c) % 10)))) 50,
        AObj.cells ((AV.bool my) :: (ints .u8 ys)) 50 = AObj.cells ((AV.bool my) :: (ints .u8 ys)) 50,
        AObj.cells ((AV.bool false) :: (ints .u8 (List.replicate 88 0))) 50 = AObj.cells ((AV.bool false) :: (ints .u8 (List.replicate 88 0))) 50]) (exec_sound _ [.reg [(1, {val := some (AV.bool true)})], .reg [(2, {val := some (AV.ptr 0 (k + 1))}), (3, {val := some (AV.int .u8 (zs.getD k 0))}), (4, {val := some (AV.int .i64 (zs.getD k 0))}), (5, {val := some (AV.int .i64 (10 + (zs.getD k 0)))}), (9, {val := some (AV.ptr 1 (k + 1))}), (10, {val := some (AV.int .u8 (ys.getD k 0))}), (11, {val := some (AV.int .i64 (ys.getD k 0))}), (12, {val := some (AV.int .i64 (s * ys.getD k 0))}), (13, {val := some (AV.int .i64 ((10 + (zs.getD k 0)) + (s * ys.getD k 0)))}), (15, {val := some (AV.int .i64 (((10 + (zs.getD k 0)) + (s * ys.getD k 0)) + c))})], .reg [(2, {val := some (AV.int .i64 ((((10 + (zs.getD k 0)) + (s * ys.getD k 0)) + c) % 10))}), (3, {val := some (AV.int .u8 ((((10 + (zs.getD k 0)) + (s * ys.getD k 0)) + c) % 10))}), (5, {val := some (AV.ptr 0 (k + 1))}), (6, {obj := some [AObj.cells ((AV.bool mx) :: (ints .u8 (zs.set k ((((10 + (zs.getD k 0)) + (s * ys.getD k 0)) + c) % 10)))) 50]})], .reg [(1, {val := some (AV.int .i64 ((((10 + (zs.getD k 0)) + (s * ys.getD k 0)) + c) / 10))}), (2, {val := some (AV.int .i64 (((((10 + (zs.getD k 0)) + (s * ys.getD k 0)) + c) / 10) - 1))})], .reg [(1, {val := some (AV.int .i64 (((k : Nat) : Int) - 1))})]] _
    ⟨[AV.bool (decide (((k : Nat) : Int) ≥ 0)) = AV.bool true,
        0 ≤ ((k : Nat) : Int),
        ((k : Nat) : Int) < ((88 : Nat) : Int),
        AV.ptr 0 (1 + Int.toNat ((k : Nat) : Int) * 1) = AV.ptr 0 (k + 1),
        0 ≤ (k + 1),
        ((AV.bool mx) :: (ints .u8 zs) : List AV)[(k + 1) - 0]? = some (AV.int .u8 (zs.getD k 0)),
        AV.int .i64 (IntKind.i64.wrap (zs.getD k 0)) = AV.int .i64 (zs.getD k 0),
        AV.int .i64 (IntKind.i64.wrap (10 + (zs.getD k 0))) = AV.int .i64 (10 + (zs.getD k 0)),
        0 ≤ ((k : Nat) : Int),
        ((k : Nat) : Int) < ((88 : Nat) : Int),
        AV.ptr 1 (1 + Int.toNat ((k : Nat) : Int) * 1) = AV.ptr 1 (k + 1),
        0 ≤ (k + 1),
        ((AV.bool my) :: (ints .u8 ys) : List AV)[(k + 1) - 0]? = some (AV.int .u8 (ys.getD k 0)),
        AV.int .i64 (IntKind.i64.wrap (ys.getD k 0)) = AV.int .i64 (ys.getD k 0),
        AV.int .i64 (IntKind.i64.wrap (s * (ys.getD k 0))) = AV.int .i64 (s * ys.getD k 0),
        AV.int .i64 (IntKind.i64.wrap ((10 + (zs.getD k 0)) + (s * ys.getD k 0))) = AV.int .i64 ((10 + (zs.getD k 0)) + (s * ys.getD k 0)),
        AV.int .i64 (IntKind.i64.wrap (((10 + (zs.getD k 0)) + (s * ys.getD k 0)) + c)) = AV.int .i64 (((10 + (zs.getD k 0)) + (s * ys.getD k 0)) + c),
        (10 : Int) ≠ 0,
        AV.int .i64 ((((10 + (zs.getD k 0)) + (s * ys.getD k 0)) + c).tmod 10) = AV.int .i64 ((((10 + (zs.getD k 0)) + (s * ys.getD k 0)) + c) % 10),
        AV.int .u8 (IntKind.u8.wrap ((((10 + (zs.getD k 0)) + (s * ys.getD k 0)) + c) % 10)) = AV.int .u8 ((((10 + (zs.getD k 0)) + (s * ys.getD k 0)) + c) % 10),
        0 ≤ ((k : Nat) : Int),
        ((k : Nat) : Int) < ((88 : Nat) : Int),
        AV.ptr 0 (1 + Int.toNat ((k : Nat) : Int) * 1) = AV.ptr 0 (k + 1),
        ([AV.int .u8 ((((10 + (zs.getD k 0)) + (s * ys.getD k 0)) + c) % 10)] : List AV).length = 1,
        (k + 1) + 1 ≤ List.length ((AV.bool mx) :: (ints .u8 zs)),
        AObj.cells (List.take (k + 1) ((AV.bool mx) :: (ints .u8 zs)) ++ [AV.int .u8 ((((10 + (zs.getD k 0)) + (s * ys.getD k 0)) + c) % 10)] ++ List.drop ((k + 1) + 1) ((AV.bool mx) :: (ints .u8 zs))) 50 = AObj.cells ((AV.bool mx) :: (ints .u8 (zs.set k ((((10 + (zs.getD k 0)) + (s * ys.getD k 0)) + c) % 10)))) 50,
        (10 : Int) ≠ 0,
        AV.int .i64 (IntKind.i64.wrap ((((10 + (zs.getD k 0)) + (s * ys.getD k 0)) + c).tdiv 10)) = AV.int .i64 ((((10 + (zs.getD k 0)) + (s * ys.getD k 0)) + c) / 10),
        AV.int .i64 (IntKind.i64.wrap (((((10 + (zs.getD k 0)) + (s * ys.getD k 0)) + c) / 10) - 1)) = AV.int .i64 (((((10 + (zs.getD k 0)) + (s * ys.getD k 0)) + c) / 10) - 1),
        AV.int .i64 (IntKind.i64.wrap (((k : Nat) : Int) - 1)) = AV.int .i64 (((k : Nat) : Int) - 1)],
      .normal, ⟨[none, none, some (AV.ptr 0 0), some (AV.ptr 1 0), some (AV.ptr 2 0), some (AV.int .i64 s), some (AV.int .i64 (((((10 + (zs.getD k 0)) + (s * ys.getD k 0)) + c) / 10) - 1)), some (AV.int .i64 (((k : Nat) : Int) - 1)), some (AV.int .i64 (((10 + (zs.getD k 0)) + (s * ys.getD k 0)) + c)), none, none, none, none, none, some (AV.int .i64 ((k : Nat) : Int)), some (AV.bool true), some (AV.int .i64 ((k : Nat) : Int)), some (AV.int .i64 (((k : Nat) : Int) - 1)), some (AV.int .i64 ((k : Nat) : Int)), some (AV.ptr 0 1), some (AV.ptr 0 (k + 1)), some (AV.int .u8 (zs.getD k 0)), some (AV.int .i64 (zs.getD k 0)), some (AV.int .i64 (10 + (zs.getD k 0))), some (AV.int .i64 s), some (AV.int .i64 ((k : Nat) : Int)), some (AV.ptr 1 1), some (AV.ptr 1 (k + 1)), some (AV.int .u8 (ys.getD k 0)), some (AV.int .i64 (ys.getD k 0)), some (AV.int .i64 (s * ys.getD k 0)), some (AV.int .i64 ((10 + (zs.getD k 0)) + (s * ys.getD k 0))), some (AV.int .i64 c), some (AV.int .i64 (((10 + (zs.getD k 0)) + (s * ys.getD k 0)) + c)), some (AV.int .i64 ((k : Nat) : Int)), some (AV.int .i64 (((10 + (zs.getD k 0)) + (s * ys.getD k 0)) + c)), some (AV.int .i64 ((((10 + (zs.getD k 0)) + (s * ys.getD k 0)) + c) % 10)), some (AV.int .u8 ((((10 + (zs.getD k 0)) + (s * ys.getD k 0)) + c) % 10)), some (AV.ptr 0 1), some (AV.ptr 0 (k + 1)), some (AV.int .i64 (((10 + (zs.getD k 0)) + (s * ys.getD k 0)) + c)), some (AV.int .i64 ((((10 + (zs.getD k 0)) + (s * ys.getD k 0)) + c) / 10)), some (AV.int .i64 (((((10 + (zs.getD k 0)) + (s * ys.getD k 0)) + c) / 10) - 1)), none], [some (AObj.cells ((AV.bool mx) :: (ints .u8 (zs.set k ((((10 + (zs.getD k 0)) + (s * ys.getD k 0)) + c) % 10)))) 50), some (AObj.cells ((AV.bool my) :: (ints .u8 ys)) 50), some (AObj.cells ((AV.bool false) :: (ints .u8 (List.replicate 88 0))) 50)]⟩, []⟩ (by kernel_rfl)
    ⟨bT (by omega), by omega, by omega, ptrE (by omega), Nat.zero_le _, ints_get' (by omega), wI (by omega), wI (by omega), by omega, by omega, ptrE (by omega), Nat.zero_le _, ints_get' (by omega), wI (by omega), wI (by omega), wI (by omega), wI (by omega), by decide, remI (by omega), w_u8 (by omega), by omega, by omega, ptrE (by omega), rfl, (by simp only [List.length_cons, List.length_nil, List.length_append, ints_length, u8s_length, List.length_replicate, List.length_set, List.length_map, digs_length] <;> omega), store_ints [AV.bool mx] (by omega), by decide, quoI (by omega), wI (by omega), wI (by omega), trivial⟩) (by kernel_rfl)
    ⟨rfl, rfl, rfl, rfl, intE (by omega), rfl, rfl, rfl, rfl, trivial⟩

def added_out (mx my : Bool) (ys zs : List Int) : AState :=
  ⟨[none, none, some (AV.ptr 0 0), none, some (AV.ptr 2 0), none, none, none, none, none, none, none, none, none, none, none, none, none, none, none, none, none, none, none, none, none, none, none, none, none, none, none, none, none, none, none, none, none, none, none, none, none, none, none], [some (AObj.cells ((AV.bool mx) :: (ints .u8 zs)) 50), some (AObj.cells ((AV.bool my) :: (ints .u8 ys)) 50), some (AObj.cells ((AV.bool false) :: (ints .u8 (List.replicate 88 0))) 50)]⟩

theorem added_last (mx my : Bool) (ys : List Int) (s : Int) (zs : List Int) (c : Int) : Tri Try.prog (loopN (bodyOf Try.f60) 0) (added_inv mx my ys s zs c (-1)) (.exit 0) (added_out mx my ys zs) := by
  exact Tri.weak (ob := [AV.ptr 0 0 = AV.ptr 0 0,
        AV.ptr 2 0 = AV.ptr 2 0,
        AObj.cells ((AV.bool mx) :: (ints .u8 zs)) 50 = AObj.cells ((AV.bool mx) :: (ints .u8 zs)) 50,
        AObj.cells ((AV.bool my) :: (ints .u8 ys)) 50 = AObj.cells ((AV.bool my) :: (ints .u8 ys)) 50,
        AObj.cells ((AV.bool false) :: (ints .u8 (List.replicate 88 0))) 50 = AObj.cells ((AV.bool false) :: (ints .u8 (List.replicate 88 0))) 50]) (exec_sound _ [.reg [(1, {val := some (AV.bool false)})]] _
    ⟨[AV.bool (decide ((-1) ≥ 0)) = AV.bool false],
      .exit 0, ⟨[none, none, some (AV.ptr 0 0), some (AV.ptr 1 0), some (AV.ptr 2 0), some (AV.int .i64 s), some (AV.int .i64 c), some (AV.int .i64 (-1)), none, none, none, none, none, none, some (AV.int .i64 (-1)), some (AV.bool false), none, none, none, none, none, none, none, none, none, none, none, none, none, none, none, none, none, none, none, none, none, none, none, none, none, none, none, none], [some (AObj.cells ((AV.bool mx) :: (ints .u8 zs)) 50), some (AObj.cells ((AV.bool my) :: (ints .u8 ys)) 50), some (AObj.cells ((AV.bool false) :: (ints .u8 (List.replicate 88 0))) 50)]⟩, []⟩ (by kernel_rfl)
    ⟨bF (by decide), trivial⟩) (by kernel_rfl)
    ⟨rfl, rfl, rfl, rfl, rfl, trivial⟩

theorem added_loop (mx my : Bool) (s : Int) (hs : s = 1 ∨ s = -1) (xs ys : List Int) (hx : Dig xs) (hy : Dig ys) (lx : xs.length = 88) (ly : ys.length = 88) :
    Tri Try.prog (.loop (loopN (bodyOf Try.f60) 0)) (added_inv mx my ys s xs 0 87) (.exit 0) (added_out mx my ys (addArr s xs ys 0)) := by
  have e1 : addArr s xs ys 88 = xs := by rw [← lx]; exact addArr_end
  have e2 : addCarry s xs ys 88 = 0 := by rw [← lx]; exact addCarry_end
  have h := tri_down (P := Try.prog) (body := loopN (bodyOf Try.f60) 0) (ex := .exit 0) (out := added_out mx my ys (addArr s xs ys 0)) (fun k => added_inv mx my ys s (addArr s xs ys k) (addCarry s xs ys k) ((k : Int) - 1)) (ne_normal_exit 0) 88
    (fun k hk => by
      have hst := addArr_step (s := s) (xs := xs) (ys := ys) (k := k) (by omega) (by omega)
      have hg := addArr_get (s := s) (xs := xs) (ys := ys) (k := k) (by omega)
      rw [← hg] at hst
      have by1 := hy.getD k
      have hd : Dig xs := hx
      have hsy : -9 ≤ s * ys.getD k 0 ∧ s * ys.getD k 0 ≤ 9 := by rcases hs with rfl | rfl <;> omega
      have hr := added_round mx my ys s (addArr s xs ys (k + 1)) (addCarry s xs ys (k + 1)) k hk (by rw [addArr_length hs hx hy (by omega) (by omega), lx]) ly (by rw [hg]; exact hx.getD k) hsy (addCarry_bounds hs hx hy (by omega)) by1
      rw [hst.1, ← hst.2] at hr
      simp only [show (((k + 1 : Nat) : Int) - 1) = k by omega]
      exact hr)
    (by simp only [show (((0 : Nat) : Int) - 1) = -1 by omega]; exact added_last mx my ys s _ _) 88 (Nat.le_refl _)
  simp only [e1, e2, show (((88 : Nat) : Int) - 1) = 87 by omega] at h
  exact h

theorem added_meets (mx my : Bool) (xs ys : List Int) (hx : Dig xs) (hy : Dig ys) (lx : xs.length = 88) (ly : ys.length = 88) (ds : List Int) (hds : addArr (sgnOf mx my) xs ys 0 = ds) : Meets Try.prog 60 [AV.agg ((AV.bool mx) :: (ints .u8 xs)), AV.agg ((AV.bool my) :: (ints .u8 ys))] [] (AV.agg ((AV.bool mx) :: (ints .u8 ds))) [] := by
  have hl1 := addArr_length (s := 1) (k := 0) (.inl rfl) hx hy (by omega) (by omega)
  have hl2 := addArr_length (s := -1) (k := 0) (.inr rfl) hx hy (by omega) (by omega)
  by_cases c1 : mx = my
  · exact meets_of_exec (fn := Try.f60) 3 [.reg [(0, {nm := [0]}), (1, {nm := [1]}), (2, {nm := [2], obj := some [AObj.cells ((AV.bool false) :: (ints .u8 (List.replicate 88 0))) 50]})], .reg [], .reg [(1, {val := some (AV.bool mx)}), (3, {val := some (AV.bool my)}), (4, {val := some (AV.bool false)})], .reg [], .reg [], .loop (⟨[none, none, some (AV.ptr 0 0), some (AV.ptr 1 0), some (AV.ptr 2 0), some (AV.int .i64 1), some (AV.int .i64 0), some (AV.int .i64 87), none, none, none, none, none, none, none, none, none, none, none, none, none, none, none, none, none, none, none, none, none, none, none, none, none, none, none, none, none, none, none, none, none, none, none, none], [some (AObj.cells ((AV.bool mx) :: (ints .u8 xs)) 50), some (AObj.cells ((AV.bool my) :: (ints .u8 ys)) 50), some (AObj.cells ((AV.bool false) :: (ints .u8 (List.replicate 88 0))) 50)]⟩) (.exit 0) (⟨[none, none, some (AV.ptr 0 0), none, some (AV.ptr 2 0), none, none, none, none, none, none, none, none, none, none, none, none, none, none, none, none, none, none, none, none, none, none, none, none, none, none, none, none, none, none, none, none, none, none, none, none, none, none, none], [some (AObj.cells ((AV.bool mx) :: (ints .u8 (addArr 1 xs ys 0))) 50), some (AObj.cells ((AV.bool my) :: (ints .u8 ys)) 50), some (AObj.cells ((AV.bool false) :: (ints .u8 (List.replicate 88 0))) 50)]⟩), .reg [(0, {val := some (AV.agg ((AV.bool mx) :: (ints .u8 (addArr 1 xs ys 0))))}), (1, {obj := some [AObj.cells ((AV.bool mx) :: (ints .u8 (addArr 1 xs ys 0))) 50]})]] [{val := some (AV.agg ((AV.bool mx) :: (ints .u8 (addArr 1 xs ys 0))))}]
      (r := ⟨[AObj.cells (zeroCellsA Try.prog 50) 50 = AObj.cells ((AV.bool false) :: (ints .u8 (List.replicate 88 0))) 50,
          0 ≤ 0,
          ((AV.bool mx) :: (ints .u8 xs) : List AV)[0 - 0]? = some (AV.bool mx),
          0 ≤ 0,
          ((AV.bool my) :: (ints .u8 ys) : List AV)[0 - 0]? = some (AV.bool my),
          AV.bool (!(mx == my)) = AV.bool false,
          AV.ptr 0 0 = AV.ptr 0 0,
          AV.ptr 1 0 = AV.ptr 1 0,
          AV.ptr 2 0 = AV.ptr 2 0,
          AV.int .i64 1 = AV.int .i64 1,
          AV.int .i64 0 = AV.int .i64 0,
          AV.int .i64 87 = AV.int .i64 87,
          AObj.cells ((AV.bool mx) :: (ints .u8 xs)) 50 = AObj.cells ((AV.bool mx) :: (ints .u8 xs)) 50,
          AObj.cells ((AV.bool my) :: (ints .u8 ys)) 50 = AObj.cells ((AV.bool my) :: (ints .u8 ys)) 50,
          AObj.cells ((AV.bool false) :: (ints .u8 (List.replicate 88 0))) 50 = AObj.cells ((AV.bool false) :: (ints .u8 (List.replicate 88 0))) 50,
          Tri Try.prog (.loop (loopN (bodyOf Try.f60) 0)) (⟨[none, none, some (AV.ptr 0 0), some (AV.ptr 1 0), some (AV.ptr 2 0), some (AV.int .i64 1), some (AV.int .i64 0), some (AV.int .i64 87), none, none, none, none, none, none, none, none, none, none, none, none, none, none, none, none, none, none, none, none, none, none, none, none, none, none, none, none, none, none, none, none, none, none, none, none], [some (AObj.cells ((AV.bool mx) :: (ints .u8 xs)) 50), some (AObj.cells ((AV.bool my) :: (ints .u8 ys)) 50), some (AObj.cells ((AV.bool false) :: (ints .u8 (List.replicate 88 0))) 50)]⟩) (.exit 0) (⟨[none, none, some (AV.ptr 0 0), none, some (AV.ptr 2 0), none, none, none, none, none, none, none, none, none, none, none, none, none, none, none, none, none, none, none, none, none, none, none, none, none, none, none, none, none, none, none, none, none, none, none, none, none, none, none], [some (AObj.cells ((AV.bool mx) :: (ints .u8 (addArr 1 xs ys 0))) 50), some (AObj.cells ((AV.bool my) :: (ints .u8 ys)) 50), some (AObj.cells ((AV.bool false) :: (ints .u8 (List.replicate 88 0))) 50)]⟩),
          0 ≤ 0,
          0 - 0 + 89 ≤ List.length ((AV.bool mx) :: (ints .u8 (addArr 1 xs ys 0))),
          List.take 89 (List.drop (0 - 0) ((AV.bool mx) :: (ints .u8 (addArr 1 xs ys 0)))) = (AV.bool mx) :: (ints .u8 (addArr 1 xs ys 0)),
          ((AV.bool mx) :: (ints .u8 (addArr 1 xs ys 0)) : List AV).length = 89,
          0 + 89 ≤ List.length ((AV.bool false) :: (ints .u8 (List.replicate 88 0))),
          AObj.cells (List.take 0 ((AV.bool false) :: (ints .u8 (List.replicate 88 0))) ++ ((AV.bool mx) :: (ints .u8 (addArr 1 xs ys 0))) ++ List.drop (0 + 89) ((AV.bool false) :: (ints .u8 (List.replicate 88 0)))) 50 = AObj.cells ((AV.bool mx) :: (ints .u8 (addArr 1 xs ys 0))) 50],
        .ret, ⟨[none, none, some (AV.ptr 0 0), none, some (AV.ptr 2 0), none, none, none, none, none, none, none, none, none, none, none, none, none, none, none, none, none, none, none, none, none, none, none, none, none, none, none, none, none, none, none, none, none, none, none, none, none, none, some (AV.agg ((AV.bool mx) :: (ints .u8 (addArr 1 xs ys 0))))], [some (AObj.cells ((AV.bool mx) :: (ints .u8 (addArr 1 xs ys 0))) 50), some (AObj.cells ((AV.bool my) :: (ints .u8 ys)) 50), some (AObj.cells ((AV.bool mx) :: (ints .u8 (addArr 1 xs ys 0))) 50)]⟩, []⟩)
      (ob := [0 ≤ 0,
          0 - 0 + 89 ≤ List.length ((AV.bool mx) :: (ints .u8 (addArr 1 xs ys 0))),
          List.take 89 (List.drop (0 - 0) ((AV.bool mx) :: (ints .u8 (addArr 1 xs ys 0)))) = (AV.bool mx) :: (ints .u8 (addArr 1 xs ys 0)),
          AV.agg ((AV.bool mx) :: (ints .u8 (addArr 1 xs ys 0))) = AV.agg ((AV.bool mx) :: (ints .u8 ds)),
          Avoid (fun n => decide (0 ≤ n)) (AV.agg ((AV.bool mx) :: (ints .u8 ds)))])
      Try.func60 (by kernel_rfl) Try.call60 (by kernel_rfl)
      ⟨by kernel_rfl, Nat.zero_le _, rfl, Nat.zero_le _, rfl, sneF c1, rfl, rfl, rfl, rfl, rfl, rfl, rfl, rfl, rfl, added_loop mx my 1 (by decide) xs ys hx hy lx ly, Nat.zero_le _, (by simp only [List.length_cons, List.length_nil, List.length_append, ints_length, u8s_length, List.length_replicate, List.length_set, List.length_map, digs_length] <;> omega), whole_cells (by simp only [List.length_cons, List.length_nil, List.length_append, ints_length, u8s_length, List.length_replicate, List.length_set, List.length_map, digs_length] <;> omega), (by simp only [List.length_cons, List.length_nil, List.length_append, ints_length, u8s_length, List.length_replicate, List.length_set, List.length_map, digs_length] <;> omega), (by simp only [List.length_cons, List.length_nil, List.length_append, ints_length, u8s_length, List.length_replicate, List.length_set, List.length_map, digs_length] <;> omega), store_whole (by simp only [List.length_cons, List.length_nil, List.length_append, ints_length, u8s_length, List.length_replicate, List.length_set, List.length_map, digs_length] <;> omega), trivial⟩
      (.inl rfl) (by kernel_rfl) ⟨Nat.zero_le _, (by simp only [List.length_cons, List.length_nil, List.length_append, ints_length, u8s_length, List.length_replicate, List.length_set, List.length_map, digs_length] <;> omega), whole_cells (by simp only [List.length_cons, List.length_nil, List.length_append, ints_length, u8s_length, List.length_replicate, List.length_set, List.length_map, digs_length] <;> omega), by rw [← hds, sgnOf, if_pos c1], Avoid.agg (AvoidL.cons (Avoid.bool _ _) (AvoidL.ints _ _ _)), trivial⟩
  · exact meets_of_exec (fn := Try.f60) 3 [.reg [(0, {nm := [0]}), (1, {nm := [1]}), (2, {nm := [2], obj := some [AObj.cells ((AV.bool false) :: (ints .u8 (List.replicate 88 0))) 50]})], .reg [], .reg [(1, {val := some (AV.bool mx)}), (3, {val := some (AV.bool my)}), (4, {val := some (AV.bool true)})], .reg [], .reg [], .reg [], .loop (⟨[none, none, some (AV.ptr 0 0), some (AV.ptr 1 0), some (AV.ptr 2 0), some (AV.int .i64 (-1)), some (AV.int .i64 0), some (AV.int .i64 87), none, none, none, none, none, none, none, none, none, none, none, none, none, none, none, none, none, none, none, none, none, none, none, none, none, none, none, none, none, none, none, none, none, none, none, none], [some (AObj.cells ((AV.bool mx) :: (ints .u8 xs)) 50), some (AObj.cells ((AV.bool my) :: (ints .u8 ys)) 50), some (AObj.cells ((AV.bool false) :: (ints .u8 (List.replicate 88 0))) 50)]⟩) (.exit 0) (⟨[none, none, some (AV.ptr 0 0), none, some (AV.ptr 2 0), none, none, none, none, none, none, none, none, none, none, none, none, none, none, none, none, none, none, none, none, none, none, none, none, none, none, none, none, none, none, none, none, none, none, none, none, none, none, none], [some (AObj.cells ((AV.bool mx) :: (ints .u8 (addArr (-1) xs ys 0))) 50), some (AObj.cells ((AV.bool my) :: (ints .u8 ys)) 50), some (AObj.cells ((AV.bool false) :: (ints .u8 (List.replicate 88 0))) 50)]⟩), .reg [(0, {val := some (AV.agg ((AV.bool mx) :: (ints .u8 (addArr (-1) xs ys 0))))}), (1, {obj := some [AObj.cells ((AV.bool mx) :: (ints .u8 (addArr (-1) xs ys 0))) 50]})]] [{val := some (AV.agg ((AV.bool mx) :: (ints .u8 (addArr (-1) xs ys 0))))}]
      (r := ⟨[AObj.cells (zeroCellsA Try.prog 50) 50 = AObj.cells ((AV.bool false) :: (ints .u8 (List.replicate 88 0))) 50,
          0 ≤ 0,
          ((AV.bool mx) :: (ints .u8 xs) : List AV)[0 - 0]? = some (AV.bool mx),
          0 ≤ 0,
          ((AV.bool my) :: (ints .u8 ys) : List AV)[0 - 0]? = some (AV.bool my),
          AV.bool (!(mx == my)) = AV.bool true,
          AV.ptr 0 0 = AV.ptr 0 0,
          AV.ptr 1 0 = AV.ptr 1 0,
          AV.ptr 2 0 = AV.ptr 2 0,
          AV.int .i64 (-1) = AV.int .i64 (-1),
          AV.int .i64 0 = AV.int .i64 0,
          AV.int .i64 87 = AV.int .i64 87,
          AObj.cells ((AV.bool mx) :: (ints .u8 xs)) 50 = AObj.cells ((AV.bool mx) :: (ints .u8 xs)) 50,
          AObj.cells ((AV.bool my) :: (ints .u8 ys)) 50 = AObj.cells ((AV.bool my) :: (ints .u8 ys)) 50,
          AObj.cells ((AV.bool false) :: (ints .u8 (List.replicate 88 0))) 50 = AObj.cells ((AV.bool false) :: (ints .u8 (List.replicate 88 0))) 50,
          Tri Try.prog (.loop (loopN (bodyOf Try.f60) 0)) (⟨[none, none, some (AV.ptr 0 0), some (AV.ptr 1 0), some (AV.ptr 2 0), some (AV.int .i64 (-1)), some (AV.int .i64 0), some (AV.int .i64 87), none, none, none, none, none, none, none, none, none, none, none, none, none, none, none, none, none, none, none, none, none, none, none, none, none, none, none, none, none, none, none, none, none, none, none, none], [some (AObj.cells ((AV.bool mx) :: (ints .u8 xs)) 50), some (AObj.cells ((AV.bool my) :: (ints .u8 ys)) 50), some (AObj.cells ((AV.bool false) :: (ints .u8 (List.replicate 88 0))) 50)]⟩) (.exit 0) (⟨[none, none, some (AV.ptr 0 0), none, some (AV.ptr 2 0), none, none, none, none, none, none, none, none, none, none, none, none, none, none, none, none, none, none, none, none, none, none, none, none, none, none, none, none, none, none, none, none, none, none, none, none, none, none, none], [some (AObj.cells ((AV.bool mx) :: (ints .u8 (addArr (-1) xs ys 0))) 50), some (AObj.cells ((AV.bool my) :: (ints .u8 ys)) 50), some (AObj.cells ((AV.bool false) :: (ints .u8 (List.replicate 88 0))) 50)]⟩),
          0 ≤ 0,
          0 - 0 + 89 ≤ List.length ((AV.bool mx) :: (ints .u8 (addArr (-1) xs ys 0))),
          List.take 89 (List.drop (0 - 0) ((AV.bool mx) :: (ints .u8 (addArr (-1) xs ys 0)))) = (AV.bool mx) :: (ints .u8 (addArr (-1) xs ys 0)),
          ((AV.bool mx) :: (ints .u8 (addArr (-1) xs ys 0)) : List AV).length = 89,
          0 + 89 ≤ List.length ((AV.bool false) :: (ints .u8 (List.replicate 88 0))),
          AObj.cells (List.take 0 ((AV.bool false) :: (ints .u8 (List.replicate 88 0))) ++ ((AV.bool mx) :: (ints .u8 (addArr (-1) xs ys 0))) ++ List.drop (0 + 89) ((AV.bool false) :: (ints .u8 (List.replicate 88 0)))) 50 = AObj.cells ((AV.bool mx) :: (ints .u8 (addArr (-1) xs ys 0))) 50],
        .ret, ⟨[none, none, some (AV.ptr 0 0), none, some (AV.ptr 2 0), none, none, none, none, none, none, none, none, none, none, none, none, none, none, none, none, none, none, none, none, none, none, none, none, none, none, none, none, none, none, none, none, none, none, none, none, none, none, some (AV.agg ((AV.bool mx) :: (ints .u8 (addArr (-1) xs ys 0))))], [some (AObj.cells ((AV.bool mx) :: (ints .u8 (addArr (-1) xs ys 0))) 50), some (AObj.cells ((AV.bool my) :: (ints .u8 ys)) 50), some (AObj.cells ((AV.bool mx) :: (ints .u8 (addArr (-1) xs ys 0))) 50)]⟩, []⟩)
      (ob := [0 ≤ 0,
          0 - 0 + 89 ≤ List.length ((AV.bool mx) :: (ints .u8 (addArr (-1) xs ys 0))),
          List.take 89 (List.drop (0 - 0) ((AV.bool mx) :: (ints .u8 (addArr (-1) xs ys 0)))) = (AV.bool mx) :: (ints .u8 (addArr (-1) xs ys 0)),
          AV.agg ((AV.bool mx) :: (ints .u8 (addArr (-1) xs ys 0))) = AV.agg ((AV.bool mx) :: (ints .u8 ds)),
          Avoid (fun n => decide (0 ≤ n)) (AV.agg ((AV.bool mx) :: (ints .u8 ds)))])
      Try.func60 (by kernel_rfl) Try.call60 (by kernel_rfl)
      ⟨by kernel_rfl, Nat.zero_le _, rfl, Nat.zero_le _, rfl, sneT c1, rfl, rfl, rfl, rfl, rfl, rfl, rfl, rfl, rfl, added_loop mx my (-1) (by decide) xs ys hx hy lx ly, Nat.zero_le _, (by simp only [List.length_cons, List.length_nil, List.length_append, ints_length, u8s_length, List.length_replicate, List.length_set, List.length_map, digs_length] <;> omega), whole_cells (by simp only [List.length_cons, List.length_nil, List.length_append, ints_length, u8s_length, List.length_replicate, List.length_set, List.length_map, digs_length] <;> omega), (by simp only [List.length_cons, List.length_nil, List.length_append, ints_length, u8s_length, List.length_replicate, List.length_set, List.length_map, digs_length] <;> omega), (by simp only [List.length_cons, List.length_nil, List.length_append, ints_length, u8s_length, List.length_replicate, List.length_set, List.length_map, digs_length] <;> omega), store_whole (by simp only [List.length_cons, List.length_nil, List.length_append, ints_length, u8s_length, List.length_replicate, List.length_set, List.length_map, digs_length] <;> omega), trivial⟩
      (.inl rfl) (by kernel_rfl) ⟨Nat.zero_le _, (by simp only [List.length_cons, List.length_nil, List.length_append, ints_length, u8s_length, List.length_replicate, List.length_set, List.length_map, digs_length] <;> omega), whole_cells (by simp only [List.length_cons, List.length_nil, List.length_append, ints_length, u8s_length, List.length_replicate, List.length_set, List.length_map, digs_length] <;> omega), by rw [← hds, sgnOf, if_neg c1], Avoid.agg (AvoidL.cons (Avoid.bool _ _) (AvoidL.ints _ _ _)), trivial⟩

def times_inv (mx : Bool) (m : Int) (zs : List Int) (c ii : Int) : AState :=
  ⟨[none, some (AV.int .i64 m), some (AV.ptr 0 0), none, some (AV.ptr 1 0), some (AV.int .i64 c), some (AV.int .i64 ii), none, none, none, none, none, none, none, none, none, none, none, none, none, none, none, none, none, none, none, none, none, none, none], [some (AObj.cells ((AV.bool mx) :: (ints .u8 zs)) 50), some (AObj.cells ((AV.bool false) :: (ints .u8 (List.replicate 88 0))) 50)]⟩

theorem times_round (mx : Bool) (m : Int) (zs : List Int) (c : Int) (k : Nat) (hk : k < 88) (hz : zs.length = 88) (h1 : 0 ≤ zs.getD k 0 ∧ zs.getD k 0 ≤ 9) (h2 : 0 ≤ zs.getD k 0 * m ∧ zs.getD k 0 * m ≤ 9 * m) (h3 : 0 ≤ c ∧ c ≤ m) (h4 : 0 ≤ m ∧ m < 1000000000000000) : Tri Try.prog (loopN (bodyOf Try.f75) 0) (times_inv mx m zs c k) .normal (times_inv mx m (zs.set k ((zs.getD k 0 * m + c) % 10)) ((zs.getD k 0 * m + c) / 10) ((k : Int) - 1)) := by
  exact Tri.weak (ob := [AV.int .i64 m = AV.int .i64 m,
        AV.ptr 0 0 = AV.ptr 0 0,
        AV.ptr 1 0 = AV.ptr 1 0,
        AV.int .i64 (((zs.getD k 0 * m) + c) / 10) = AV.int .i64 ((zs.getD k 0 * m + c) / 10),
        AV.int .i64 (((k : Nat) : Int) - 1) = AV.int .i64 ((k : Int) - 1),
        AObj.cells ((AV.bool mx) :: (ints .u8 (zs.set k (((zs.getD k 0 * m) + c) % 10)))) 50 = AObj.cells ((AV.bool mx) :: (ints .u8 (zs.set k ((zs.getD k 0 * m + c) % 10)))) 50,
        AObj.cells ((AV.bool false) :: (ints .u8 (List.replicate 88 0))) 50 = AObj.cells ((AV.bool false) :: (ints .u8 (List.replicate 88 0))) 50]) (exec_sound _ [.reg [(1, {val := some (AV.bool true)})], .reg [(2, {val := some (AV.ptr 0 (k + 1))}), (3, {val := some (AV.int .u8 (zs.getD k 0))}), (4, {val := some (AV.int .i64 (zs.getD k 0))}), (6, {val := some (AV.int .i64 (zs.getD k 0 * m))}), (8, {val := some (AV.int .i64 ((zs.getD k 0 * m) + c))})], .reg [(2, {val := some (AV.int .i64 (((zs.getD k 0 * m) + c) % 10))}), (3, {val := some (AV.int .u8 (((zs.getD k 0 * m) + c) % 10))}), (5, {val := some (AV.ptr 0 (k + 1))}), (6, {obj := some [AObj.cells ((AV.bool mx) :: (ints .u8 (zs.set k (((zs.getD k 0 * m) + c) % 10)))) 50]})], .reg [(1, {val := some (AV.int .i64 (((zs.getD k 0 * m) + c) / 10))})], .reg [(1, {val := some (AV.int .i64 (((k : Nat) : Int) - 1))})]] _
    ⟨[AV.bool (decide (((k : Nat) : Int) ≥ 0)) = AV.bool true,
        0 ≤ ((k : Nat) : Int),
        ((k : Nat) : Int) < ((88 : Nat) : Int),
        AV.ptr 0 (1 + Int.toNat ((k : Nat) : Int) * 1) = AV.ptr 0 (k + 1),
        0 ≤ (k + 1),
        ((AV.bool mx) :: (ints .u8 zs) : List AV)[(k + 1) - 0]? = some (AV.int .u8 (zs.getD k 0)),
        AV.int .i64 (IntKind.i64.wrap (zs.getD k 0)) = AV.int .i64 (zs.getD k 0),
        AV.int .i64 (IntKind.i64.wrap ((zs.getD k 0) * m)) = AV.int .i64 (zs.getD k 0 * m),
        AV.int .i64 (IntKind.i64.wrap ((zs.getD k 0 * m) + c)) = AV.int .i64 ((zs.getD k 0 * m) + c),
        (10 : Int) ≠ 0,
        AV.int .i64 (((zs.getD k 0 * m) + c).tmod 10) = AV.int .i64 (((zs.getD k 0 * m) + c) % 10),
        AV.int .u8 (IntKind.u8.wrap (((zs.getD k 0 * m) + c) % 10)) = AV.int .u8 (((zs.getD k 0 * m) + c) % 10),
        0 ≤ ((k : Nat) : Int),
        ((k : Nat) : Int) < ((88 : Nat) : Int),
        AV.ptr 0 (1 + Int.toNat ((k : Nat) : Int) * 1) = AV.ptr 0 (k + 1),
        ([AV.int .u8 (((zs.getD k 0 * m) + c) % 10)] : List AV).length = 1,
        (k + 1) + 1 ≤ List.length ((AV.bool mx) :: (ints .u8 zs)),
        AObj.cells (List.take (k + 1) ((AV.bool mx) :: (ints .u8 zs)) ++ [AV.int .u8 (((zs.getD k 0 * m) + c) % 10)] ++ List.drop ((k + 1) + 1) ((AV.bool mx) :: (ints .u8 zs))) 50 = AObj.cells ((AV.bool mx) :: (ints .u8 (zs.set k (((zs.getD k 0 * m) + c) % 10)))) 50,
        (10 : Int) ≠ 0,
        AV.int .i64 (IntKind.i64.wrap (((zs.getD k 0 * m) + c).tdiv 10)) = AV.int .i64 (((zs.getD k 0 * m) + c) / 10),
        AV.int .i64 (IntKind.i64.wrap (((k : Nat) : Int) - 1)) = AV.int .i64 (((k : Nat) : Int) - 1)],
      .normal, ⟨[none, some (AV.int .i64 m), some (AV.ptr 0 0), none, some (AV.ptr 1 0), some (AV.int .i64 (((zs.getD k 0 * m) + c) / 10)), some (AV.int .i64 (((k : Nat) : Int) - 1)), some (AV.int .i64 ((zs.getD k 0 * m) + c)), some (AV.int .i64 ((k : Nat) : Int)), some (AV.bool true), some (AV.int .i64 ((k : Nat) : Int)), some (AV.int .i64 (((k : Nat) : Int) - 1)), some (AV.int .i64 ((k : Nat) : Int)), some (AV.ptr 0 1), some (AV.ptr 0 (k + 1)), some (AV.int .u8 (zs.getD k 0)), some (AV.int .i64 (zs.getD k 0)), some (AV.int .i64 m), some (AV.int .i64 (zs.getD k 0 * m)), some (AV.int .i64 c), some (AV.int .i64 ((zs.getD k 0 * m) + c)), some (AV.int .i64 ((k : Nat) : Int)), some (AV.int .i64 ((zs.getD k 0 * m) + c)), some (AV.int .i64 (((zs.getD k 0 * m) + c) % 10)), some (AV.int .u8 (((zs.getD k 0 * m) + c) % 10)), some (AV.ptr 0 1), some (AV.ptr 0 (k + 1)), some (AV.int .i64 ((zs.getD k 0 * m) + c)), some (AV.int .i64 (((zs.getD k 0 * m) + c) / 10)), none], [some (AObj.cells ((AV.bool mx) :: (ints .u8 (zs.set k (((zs.getD k 0 * m) + c) % 10)))) 50), some (AObj.cells ((AV.bool false) :: (ints .u8 (List.replicate 88 0))) 50)]⟩, []⟩ (by kernel_rfl)
    ⟨bT (by omega), by omega, by omega, ptrE (by omega), Nat.zero_le _, ints_get' (by omega), wI (by omega), wI (by omega), wI (by omega), by decide, remI (by omega), w_u8 (by omega), by omega, by omega, ptrE (by omega), rfl, (by simp only [List.length_cons, List.length_nil, List.length_append, ints_length, u8s_length, List.length_replicate, List.length_set, List.length_map, digs_length] <;> omega), store_ints [AV.bool mx] (by omega), by decide, quoI (by omega), wI (by omega), trivial⟩) (by kernel_rfl)
    ⟨rfl, rfl, rfl, rfl, rfl, rfl, rfl, trivial⟩

def times_out (mx : Bool) (zs : List Int) : AState :=
  ⟨[none, none, some (AV.ptr 0 0), none, some (AV.ptr 1 0), none, none, none, none, none, none, none, none, none, none, none, none, none, none, none, none, none, none, none, none, none, none, none, none, none], [some (AObj.cells ((AV.bool mx) :: (ints .u8 zs)) 50), some (AObj.cells ((AV.bool false) :: (ints .u8 (List.replicate 88 0))) 50)]⟩

theorem times_last (mx : Bool) (m : Int) (zs : List Int) (c : Int) : Tri Try.prog (loopN (bodyOf Try.f75) 0) (times_inv mx m zs c (-1)) (.exit 0) (times_out mx zs) := by
  exact Tri.weak (ob := [AV.ptr 0 0 = AV.ptr 0 0,
        AV.ptr 1 0 = AV.ptr 1 0,
        AObj.cells ((AV.bool mx) :: (ints .u8 zs)) 50 = AObj.cells ((AV.bool mx) :: (ints .u8 zs)) 50,
        AObj.cells ((AV.bool false) :: (ints .u8 (List.replicate 88 0))) 50 = AObj.cells ((AV.bool false) :: (ints .u8 (List.replicate 88 0))) 50]) (exec_sound _ [.reg [(1, {val := some (AV.bool false)})]] _
    ⟨[AV.bool (decide ((-1) ≥ 0)) = AV.bool false],
      .exit 0, ⟨[none, some (AV.int .i64 m), some (AV.ptr 0 0), none, some (AV.ptr 1 0), some (AV.int .i64 c), some (AV.int .i64 (-1)), none, some (AV.int .i64 (-1)), some (AV.bool false), none, none, none, none, none, none, none, none, none, none, none, none, none, none, none, none, none, none, none, none], [some (AObj.cells ((AV.bool mx) :: (ints .u8 zs)) 50), some (AObj.cells ((AV.bool false) :: (ints .u8 (List.replicate 88 0))) 50)]⟩, []⟩ (by kernel_rfl)
    ⟨bF (by decide), trivial⟩) (by kernel_rfl)
    ⟨rfl, rfl, rfl, rfl, trivial⟩

theorem times_loop (mx : Bool) (m : Int) (hm : 0 ≤ m ∧ m < 1000000000000000) (xs : List Int) (hx : Dig xs) (lx : xs.length = 88) :
    Tri Try.prog (.loop (loopN (bodyOf Try.f75) 0)) (times_inv mx m xs 0 87) (.exit 0) (times_out mx (timesArr m xs 0)) := by
  have e1 : timesArr m xs 88 = xs := by rw [← lx]; exact timesArr_end
  have e2 : timesCarry m xs 88 = 0 := by rw [← lx]; exact timesCarry_end
  have h := tri_down (P := Try.prog) (body := loopN (bodyOf Try.f75) 0) (ex := .exit 0) (out := times_out mx (timesArr m xs 0)) (fun k => times_inv mx m (timesArr m xs k) (timesCarry m xs k) ((k : Int) - 1)) (ne_normal_exit 0) 88
    (fun k hk => by
      have hst := timesArr_step (m := m) (xs := xs) (k := k) (by omega)
      have hg := timesArr_get (m := m) (xs := xs) (k := k) (by omega)
      rw [← hg] at hst
      have hk9 := hx.getD k
      have hzm : 0 ≤ xs.getD k 0 * m ∧ xs.getD k 0 * m ≤ 9 * m := ⟨Int.mul_nonneg hk9.1 hm.1, Int.mul_le_mul_of_nonneg_right hk9.2 hm.1⟩
      rw [← hg] at hk9 hzm
      have hr := times_round mx m (timesArr m xs (k + 1)) (timesCarry m xs (k + 1)) k hk (by rw [timesArr_length hm.1 hx (by omega), lx]) hk9 hzm (timesCarry_bounds hm.1 hx) hm
      rw [hst.1, ← hst.2] at hr
      simp only [show (((k + 1 : Nat) : Int) - 1) = k by omega]
      exact hr)
    (by simp only [show (((0 : Nat) : Int) - 1) = -1 by omega]; exact times_last mx m _ _) 88 (Nat.le_refl _)
  simp only [e1, e2, show (((88 : Nat) : Int) - 1) = 87 by omega] at h
  exact h

theorem times_meets (mx : Bool) (m : Int) (hm : 0 ≤ m ∧ m < 1000000000000000) (xs : List Int) (hx : Dig xs) (lx : xs.length = 88) (ds : List Int) (hds : timesArr m xs 0 = ds) : Meets Try.prog 75 [AV.agg ((AV.bool mx) :: (ints .u8 xs)), AV.int .i64 m] [] (AV.agg ((AV.bool mx) :: (ints .u8 ds))) [] := by
  have hlen : ds.length = 88 := by rw [← hds, timesArr_length hm.1 hx (by omega), lx]
  have hl := times_loop mx m hm xs hx lx
  rw [hds] at hl
  exact meets_of_exec (fn := Try.f75) 2 [.reg [(0, {nm := [0]}), (1, {nm := [1], obj := some [AObj.cells ((AV.bool false) :: (ints .u8 (List.replicate 88 0))) 50]})], .reg [], .reg [], .loop (⟨[none, some (AV.int .i64 m), some (AV.ptr 0 0), none, some (AV.ptr 1 0), some (AV.int .i64 0), some (AV.int .i64 87), none, none, none, none, none, none, none, none, none, none, none, none, none, none, none, none, none, none, none, none, none, none, none], [some (AObj.cells ((AV.bool mx) :: (ints .u8 xs)) 50), some (AObj.cells ((AV.bool false) :: (ints .u8 (List.replicate 88 0))) 50)]⟩) (.exit 0) (⟨[none, none, some (AV.ptr 0 0), none, some (AV.ptr 1 0), none, none, none, none, none, none, none, none, none, none, none, none, none, none, none, none, none, none, none, none, none, none, none, none, none], [some (AObj.cells ((AV.bool mx) :: (ints .u8 ds)) 50), some (AObj.cells ((AV.bool false) :: (ints .u8 (List.replicate 88 0))) 50)]⟩), .reg [(0, {val := some (AV.agg ((AV.bool mx) :: (ints .u8 ds)))}), (1, {obj := some [AObj.cells ((AV.bool mx) :: (ints .u8 ds)) 50]})]] [{val := some (AV.agg ((AV.bool mx) :: (ints .u8 ds)))}]
    (r := ⟨[AObj.cells (zeroCellsA Try.prog 50) 50 = AObj.cells ((AV.bool false) :: (ints .u8 (List.replicate 88 0))) 50,
        AV.int .i64 m = AV.int .i64 m,
        AV.ptr 0 0 = AV.ptr 0 0,
        AV.ptr 1 0 = AV.ptr 1 0,
        AV.int .i64 0 = AV.int .i64 0,
        AV.int .i64 87 = AV.int .i64 87,
        AObj.cells ((AV.bool mx) :: (ints .u8 xs)) 50 = AObj.cells ((AV.bool mx) :: (ints .u8 xs)) 50,
        AObj.cells ((AV.bool false) :: (ints .u8 (List.replicate 88 0))) 50 = AObj.cells ((AV.bool false) :: (ints .u8 (List.replicate 88 0))) 50,
        Tri Try.prog (.loop (loopN (bodyOf Try.f75) 0)) (⟨[none, some (AV.int .i64 m), some (AV.ptr 0 0), none, some (AV.ptr 1 0), some (AV.int .i64 0), some (AV.int .i64 87), none, none, none, none, none, none, none, none, none, none, none, none, none, none, none, none, none, none, none, none, none, none, none], [some (AObj.cells ((AV.bool mx) :: (ints .u8 xs)) 50), some (AObj.cells ((AV.bool false) :: (ints .u8 (List.replicate 88 0))) 50)]⟩) (.exit 0) (⟨[none, none, some (AV.ptr 0 0), none, some (AV.ptr 1 0), none, none, none, none, none, none, none, none, none, none, none, none, none, none, none, none, none, none, none, none, none, none, none, none, none], [some (AObj.cells ((AV.bool mx) :: (ints .u8 ds)) 50), some (AObj.cells ((AV.bool false) :: (ints .u8 (List.replicate 88 0))) 50)]⟩),
        0 ≤ 0,
        0 - 0 + 89 ≤ List.length ((AV.bool mx) :: (ints .u8 ds)),
        List.take 89 (List.drop (0 - 0) ((AV.bool mx) :: (ints .u8 ds))) = (AV.bool mx) :: (ints .u8 ds),
        ((AV.bool mx) :: (ints .u8 ds) : List AV).length = 89,
        0 + 89 ≤ List.length ((AV.bool false) :: (ints .u8 (List.replicate 88 0))),
        AObj.cells (List.take 0 ((AV.bool false) :: (ints .u8 (List.replicate 88 0))) ++ ((AV.bool mx) :: (ints .u8 ds)) ++ List.drop (0 + 89) ((AV.bool false) :: (ints .u8 (List.replicate 88 0)))) 50 = AObj.cells ((AV.bool mx) :: (ints .u8 ds)) 50],
      .ret, ⟨[none, none, some (AV.ptr 0 0), none, some (AV.ptr 1 0), none, none, none, none, none, none, none, none, none, none, none, none, none, none, none, none, none, none, none, none, none, none, none, none, some (AV.agg ((AV.bool mx) :: (ints .u8 ds)))], [some (AObj.cells ((AV.bool mx) :: (ints .u8 ds)) 50), some (AObj.cells ((AV.bool mx) :: (ints .u8 ds)) 50)]⟩, []⟩)
    (ob := [0 ≤ 0,
        0 - 0 + 89 ≤ List.length ((AV.bool mx) :: (ints .u8 ds)),
        List.take 89 (List.drop (0 - 0) ((AV.bool mx) :: (ints .u8 ds))) = (AV.bool mx) :: (ints .u8 ds),
        AV.agg ((AV.bool mx) :: (ints .u8 ds)) = AV.agg ((AV.bool mx) :: (ints .u8 ds)),
        Avoid (fun n => decide (0 ≤ n)) (AV.agg ((AV.bool mx) :: (ints .u8 ds)))])
    Try.func75 (by kernel_rfl) Try.call75 (by kernel_rfl)
    ⟨by kernel_rfl, rfl, rfl, rfl, rfl, rfl, rfl, rfl, hl, Nat.zero_le _, (by simp only [List.length_cons, List.length_nil, List.length_append, ints_length, u8s_length, List.length_replicate, List.length_set, List.length_map, digs_length] <;> omega), whole_cells (by simp only [List.length_cons, List.length_nil, List.length_append, ints_length, u8s_length, List.length_replicate, List.length_set, List.length_map, digs_length] <;> omega), (by simp only [List.length_cons, List.length_nil, List.length_append, ints_length, u8s_length, List.length_replicate, List.length_set, List.length_map, digs_length] <;> omega), (by simp only [List.length_cons, List.length_nil, List.length_append, ints_length, u8s_length, List.length_replicate, List.length_set, List.length_map, digs_length] <;> omega), store_whole (by simp only [List.length_cons, List.length_nil, List.length_append, ints_length, u8s_length, List.length_replicate, List.length_set, List.length_map, digs_length] <;> omega), trivial⟩
    (.inl rfl) (by kernel_rfl) ⟨Nat.zero_le _, (by simp only [List.length_cons, List.length_nil, List.length_append, ints_length, u8s_length, List.length_replicate, List.length_set, List.length_map, digs_length] <;> omega), whole_cells (by simp only [List.length_cons, List.length_nil, List.length_append, ints_length, u8s_length, List.length_replicate, List.length_set, List.length_map, digs_length] <;> omega), rfl, Avoid.agg (AvoidL.cons (Avoid.bool _ _) (AvoidL.ints _ _ _)), trivial⟩

end Go.Proofs.Ytabgphldbgdbpaa
