import Derived.Test.YtabgphldbgdbpaaDecG
set_option linter.unusedVariables false
set_option linter.unusedSimpArgs false
set_option maxRecDepth 20000
namespace Go.Proofs.Ytabgphldbgdbpaa
open Go Sx Dc

/-- The nearest decimal: the first place at which what is rounded has not too many digits. -/
def nearGo (ds : List Int) : Nat → Nat → Option (Int × Int)
  | 0, _ => none
  | f + 1, j => if evenN ds (57 - j) ≤ 999999999999999 then some (evenN ds (57 - j), (j : Int) - 9) else nearGo ds f (j + 1)
def nearM (mx : Bool) (ds : List Int) : Int × Int :=
  match nearGo ds 19 0 with
  | none => (0, 0)
  | some (n, e) => trimmedS (if mx = true then -n else n) e
def nearE (ds : List Int) : Int := if (nearGo ds 19 0).isNone then 10 else 0

def near_inv (mx : Bool) (ds : List Int) (e : Int) : AState :=
  ⟨[none, some (AV.ptr 0 0), some (AV.ptr 1 0), some (AV.int .i64 0), some (AV.int .i64 e), none, none, none, none, none, none, none, none, none, none, none, none, none, none, none, none, none, none, none, none, none], [some (AObj.cells ((AV.bool mx) :: (ints .u8 ds)) 50), some (AObj.cells [AV.int .i64 0, AV.int .i64 0] 23)]⟩

theorem near_round (mx : Bool) (ds : List Int) (e : Int) (w : Nat) (hl : ds.length = 88) (hd : Dig ds) (hw : 48 - e = w) (he : -9 ≤ e ∧ e ≤ 9) (h : ¬ evenN ds w ≤ 999999999999999) : Tri Try.prog (loopN (bodyOf Try.f32) 0) (near_inv mx ds e) .normal (near_inv mx ds (e + 1)) := by
  exact Tri.weak (ob := [AV.ptr 0 0 = AV.ptr 0 0,
        AV.ptr 1 0 = AV.ptr 1 0,
        AV.int .i64 0 = AV.int .i64 0,
        AV.int .i64 (e + 1) = AV.int .i64 (e + 1),
        AObj.cells ((AV.bool mx) :: (ints .u8 ds)) 50 = AObj.cells ((AV.bool mx) :: (ints .u8 ds)) 50,
        AObj.cells [AV.int .i64 0, AV.int .i64 0] 23 = AObj.cells [AV.int .i64 0, AV.int .i64 0] 23]) (exec_sound _ [.reg [(1, {val := some (AV.bool true)})], .reg [(1, {call := some ⟨[0], [AV.ptr 0 0, AV.int .i64 e], [AObj.cells ((AV.bool mx) :: (ints .u8 ds)) 50], AV.tuple [AV.int .i64 (capN (evenN ds w)), AV.bool (capB (evenN ds w))], [AObj.cells ((AV.bool mx) :: (ints .u8 ds)) 50]⟩, val := some (AV.tuple [AV.int .i64 0, AV.bool false]), obj := some [AObj.cells ((AV.bool mx) :: (ints .u8 ds)) 50]})], .reg [(1, {val := some (AV.bool true)})], .reg [(1, {val := some (AV.int .i64 (e + 1))})]] _
    ⟨[AV.bool (decide (e ≤ 9)) = AV.bool true,
        [AV.ptr 0 0, AV.int .i64 e] = renL [0] [AV.ptr 0 0, AV.int .i64 e],
        Meets Try.prog 66 [AV.ptr 0 0, AV.int .i64 e] [AObj.cells ((AV.bool mx) :: (ints .u8 ds)) 50] (AV.tuple [AV.int .i64 (capN (evenN ds w)), AV.bool (capB (evenN ds w))]) [AObj.cells ((AV.bool mx) :: (ints .u8 ds)) 50],
        Fits (AObj.cells ((AV.bool mx) :: (ints .u8 ds)) 50) (AObj.ren [0] (AObj.cells ((AV.bool mx) :: (ints .u8 ds)) 50)),
        AV.ren [0] (AV.tuple [AV.int .i64 (capN (evenN ds w)), AV.bool (capB (evenN ds w))]) = AV.tuple [AV.int .i64 0, AV.bool false],
        updOf [0] [AObj.cells ((AV.bool mx) :: (ints .u8 ds)) 50] [AObj.cells ((AV.bool mx) :: (ints .u8 ds)) 50] [AObj.cells ((AV.bool mx) :: (ints .u8 ds)) 50] ++ List.map (fun x => x.ren [0]) (List.drop 1 [AObj.cells ((AV.bool mx) :: (ints .u8 ds)) 50]) = [AObj.cells ((AV.bool mx) :: (ints .u8 ds)) 50],
        AV.bool (!false) = AV.bool true,
        AV.int .i64 (IntKind.i64.wrap (e + 1)) = AV.int .i64 (e + 1)],
      .normal, ⟨[none, some (AV.ptr 0 0), some (AV.ptr 1 0), some (AV.int .i64 0), some (AV.int .i64 (e + 1)), some (AV.int .i64 0), some (AV.bool false), some (AV.int .i64 e), some (AV.bool true), some (AV.int .i64 e), some (AV.int .i64 (e + 1)), some (AV.tuple [AV.int .i64 0, AV.bool false]), some (AV.int .i64 e), some (AV.tuple [AV.int .i64 0, AV.bool false]), some (AV.int .i64 0), some (AV.bool false), some (AV.bool false), some (AV.bool true), none, none, none, none, none, none, none, none], [some (AObj.cells ((AV.bool mx) :: (ints .u8 ds)) 50), some (AObj.cells [AV.int .i64 0, AV.int .i64 0] 23)]⟩, []⟩ (by kernel_rfl)
    ⟨bT (by omega), rfl, even_meets mx ds e w hl hd (by omega) hw, Fits.of_eq (by simp only [AObj.ren, renL, AV.ren, renL_ints, renL_u8s, renL_append]), cap_neg h, by simp [updOf, AObj.owned, AObj.ren, renL, AV.ren, renL_ints, renL_u8s, renL_append], rfl, wI (by omega), trivial⟩) (by kernel_rfl)
    ⟨rfl, rfl, rfl, rfl, rfl, rfl, trivial⟩

def near_found (mx : Bool) (ds : List Int) (m e : Int) : AState :=
  ⟨[none, none, some (AV.ptr 1 0), some (AV.int .i64 0), none, none, none, none, none, none, none, none, none, none, none, none, none, none, none, none, none, none, none, none, none, none], [some (AObj.cells ((AV.bool mx) :: (ints .u8 ds)) 50), some (AObj.cells [AV.int .i64 m, AV.int .i64 e] 23)]⟩

theorem near_got (mx : Bool) (ds : List Int) (e : Int) (w : Nat) (hl : ds.length = 88) (hd : Dig ds) (hw : 48 - e = w) (he : -9 ≤ e ∧ e ≤ 9) (h : evenN ds w ≤ 999999999999999) : Tri Try.prog (loopN (bodyOf Try.f32) 0) (near_inv mx ds e) .ret (near_found mx ds (trimmedS (if mx = true then -evenN ds w else evenN ds w) e).1 (trimmedS (if mx = true then -evenN ds w else evenN ds w) e).2) := by
  have hge := evenN_ge ds w
  have hb := (val_bounds _ (hd.take w)).1
  by_cases c3 : mx = true
  · exact Tri.weak (ob := [AV.ptr 1 0 = AV.ptr 1 0,
          AV.int .i64 0 = AV.int .i64 0,
          AObj.cells ((AV.bool mx) :: (ints .u8 ds)) 50 = AObj.cells ((AV.bool mx) :: (ints .u8 ds)) 50,
          AObj.cells [AV.int .i64 ((trimmedS (-(evenN ds w)) e).1), AV.int .i64 ((trimmedS (-(evenN ds w)) e).2)] 23 = AObj.cells [AV.int .i64 ((trimmedS (if mx = true then -evenN ds w else evenN ds w) e).1), AV.int .i64 ((trimmedS (if mx = true then -evenN ds w else evenN ds w) e).2)] 23]) (exec_sound _ [.reg [(1, {val := some (AV.bool true)})], .reg [(1, {call := some ⟨[0], [AV.ptr 0 0, AV.int .i64 e], [AObj.cells ((AV.bool mx) :: (ints .u8 ds)) 50], AV.tuple [AV.int .i64 (capN (evenN ds w)), AV.bool (capB (evenN ds w))], [AObj.cells ((AV.bool mx) :: (ints .u8 ds)) 50]⟩, val := some (AV.tuple [AV.int .i64 (evenN ds w), AV.bool true]), obj := some [AObj.cells ((AV.bool mx) :: (ints .u8 ds)) 50]})], .reg [(1, {val := some (AV.bool false)})], .reg [(1, {val := some (AV.bool true)})], .reg [(1, {val := some (AV.int .i64 (-(evenN ds w)))})], .reg [(2, {call := some ⟨[], [AV.int .i64 (-(evenN ds w)), AV.int .i64 e], [], AV.agg [AV.int .i64 ((trimmedS (-(evenN ds w)) e).1), AV.int .i64 ((trimmedS (-(evenN ds w)) e).2)], []⟩}), (3, {obj := some [AObj.cells [AV.int .i64 ((trimmedS (-(evenN ds w)) e).1), AV.int .i64 ((trimmedS (-(evenN ds w)) e).2)] 23]})]] _
      ⟨[AV.bool (decide (e ≤ 9)) = AV.bool true,
          [AV.ptr 0 0, AV.int .i64 e] = renL [0] [AV.ptr 0 0, AV.int .i64 e],
          Meets Try.prog 66 [AV.ptr 0 0, AV.int .i64 e] [AObj.cells ((AV.bool mx) :: (ints .u8 ds)) 50] (AV.tuple [AV.int .i64 (capN (evenN ds w)), AV.bool (capB (evenN ds w))]) [AObj.cells ((AV.bool mx) :: (ints .u8 ds)) 50],
          Fits (AObj.cells ((AV.bool mx) :: (ints .u8 ds)) 50) (AObj.ren [0] (AObj.cells ((AV.bool mx) :: (ints .u8 ds)) 50)),
          AV.ren [0] (AV.tuple [AV.int .i64 (capN (evenN ds w)), AV.bool (capB (evenN ds w))]) = AV.tuple [AV.int .i64 (evenN ds w), AV.bool true],
          updOf [0] [AObj.cells ((AV.bool mx) :: (ints .u8 ds)) 50] [AObj.cells ((AV.bool mx) :: (ints .u8 ds)) 50] [AObj.cells ((AV.bool mx) :: (ints .u8 ds)) 50] ++ List.map (fun x => x.ren [0]) (List.drop 1 [AObj.cells ((AV.bool mx) :: (ints .u8 ds)) 50]) = [AObj.cells ((AV.bool mx) :: (ints .u8 ds)) 50],
          AV.bool (!true) = AV.bool false,
          0 ≤ 0,
          ((AV.bool mx) :: (ints .u8 ds) : List AV)[0 - 0]? = some (AV.bool true),
          AV.int .i64 (IntKind.i64.wrap (0 - (evenN ds w))) = AV.int .i64 (-(evenN ds w)),
          [AV.int .i64 (-(evenN ds w)), AV.int .i64 e] = renL [] [AV.int .i64 (-(evenN ds w)), AV.int .i64 e],
          Meets Try.prog 41 [AV.int .i64 (-(evenN ds w)), AV.int .i64 e] [] (AV.agg [AV.int .i64 ((trimmedS (-(evenN ds w)) e).1), AV.int .i64 ((trimmedS (-(evenN ds w)) e).2)]) [],
          ([AV.int .i64 ((trimmedS (-(evenN ds w)) e).1), AV.int .i64 ((trimmedS (-(evenN ds w)) e).2)] : List AV).length = 2,
          0 + 2 ≤ List.length [AV.int .i64 0, AV.int .i64 0],
          AObj.cells (List.take 0 [AV.int .i64 0, AV.int .i64 0] ++ [AV.int .i64 ((trimmedS (-(evenN ds w)) e).1), AV.int .i64 ((trimmedS (-(evenN ds w)) e).2)] ++ List.drop (0 + 2) [AV.int .i64 0, AV.int .i64 0]) 23 = AObj.cells [AV.int .i64 ((trimmedS (-(evenN ds w)) e).1), AV.int .i64 ((trimmedS (-(evenN ds w)) e).2)] 23],
        .ret, ⟨[none, some (AV.ptr 0 0), some (AV.ptr 1 0), some (AV.int .i64 0), some (AV.int .i64 e), some (AV.int .i64 (-(evenN ds w))), some (AV.bool true), some (AV.int .i64 e), some (AV.bool true), none, none, some (AV.tuple [AV.int .i64 (evenN ds w), AV.bool true]), some (AV.int .i64 e), some (AV.tuple [AV.int .i64 (evenN ds w), AV.bool true]), some (AV.int .i64 (evenN ds w)), some (AV.bool true), some (AV.bool true), some (AV.bool false), some (AV.ptr 0 0), some (AV.bool true), some (AV.int .i64 (evenN ds w)), some (AV.int .i64 (-(evenN ds w))), some (AV.int .i64 (-(evenN ds w))), some (AV.int .i64 e), some (AV.agg [AV.int .i64 ((trimmedS (-(evenN ds w)) e).1), AV.int .i64 ((trimmedS (-(evenN ds w)) e).2)]), none], [some (AObj.cells ((AV.bool mx) :: (ints .u8 ds)) 50), some (AObj.cells [AV.int .i64 ((trimmedS (-(evenN ds w)) e).1), AV.int .i64 ((trimmedS (-(evenN ds w)) e).2)] 23)]⟩, []⟩ (by kernel_rfl)
      ⟨bT (by omega), rfl, even_meets mx ds e w hl hd (by omega) hw, Fits.of_eq (by simp only [AObj.ren, renL, AV.ren, renL_ints, renL_u8s, renL_append]), cap_pos h, by simp [updOf, AObj.owned, AObj.ren, renL, AV.ren, renL_ints, renL_u8s, renL_append], rfl, Nat.zero_le _, atT (rfl) c3, wI (by omega), rfl, trimmed_meets (-(evenN ds w)) e (by omega) (by omega), rfl, Nat.le_of_ble_eq_true rfl, rfl, trivial⟩) (by kernel_rfl)
      ⟨rfl, rfl, rfl, by simp only [*, if_true, if_false, Bool.false_eq_true], trivial⟩
  · exact Tri.weak (ob := [AV.ptr 1 0 = AV.ptr 1 0,
          AV.int .i64 0 = AV.int .i64 0,
          AObj.cells ((AV.bool mx) :: (ints .u8 ds)) 50 = AObj.cells ((AV.bool mx) :: (ints .u8 ds)) 50,
          AObj.cells [AV.int .i64 ((trimmedS (evenN ds w) e).1), AV.int .i64 ((trimmedS (evenN ds w) e).2)] 23 = AObj.cells [AV.int .i64 ((trimmedS (if mx = true then -evenN ds w else evenN ds w) e).1), AV.int .i64 ((trimmedS (if mx = true then -evenN ds w else evenN ds w) e).2)] 23]) (exec_sound _ [.reg [(1, {val := some (AV.bool true)})], .reg [(1, {call := some ⟨[0], [AV.ptr 0 0, AV.int .i64 e], [AObj.cells ((AV.bool mx) :: (ints .u8 ds)) 50], AV.tuple [AV.int .i64 (capN (evenN ds w)), AV.bool (capB (evenN ds w))], [AObj.cells ((AV.bool mx) :: (ints .u8 ds)) 50]⟩, val := some (AV.tuple [AV.int .i64 (evenN ds w), AV.bool true]), obj := some [AObj.cells ((AV.bool mx) :: (ints .u8 ds)) 50]})], .reg [(1, {val := some (AV.bool false)})], .reg [(1, {val := some (AV.bool false)})], .reg [(2, {call := some ⟨[], [AV.int .i64 (evenN ds w), AV.int .i64 e], [], AV.agg [AV.int .i64 ((trimmedS (evenN ds w) e).1), AV.int .i64 ((trimmedS (evenN ds w) e).2)], []⟩}), (3, {obj := some [AObj.cells [AV.int .i64 ((trimmedS (evenN ds w) e).1), AV.int .i64 ((trimmedS (evenN ds w) e).2)] 23]})]] _
      ⟨[AV.bool (decide (e ≤ 9)) = AV.bool true,
          [AV.ptr 0 0, AV.int .i64 e] = renL [0] [AV.ptr 0 0, AV.int .i64 e],
          Meets Try.prog 66 [AV.ptr 0 0, AV.int .i64 e] [AObj.cells ((AV.bool mx) :: (ints .u8 ds)) 50] (AV.tuple [AV.int .i64 (capN (evenN ds w)), AV.bool (capB (evenN ds w))]) [AObj.cells ((AV.bool mx) :: (ints .u8 ds)) 50],
          Fits (AObj.cells ((AV.bool mx) :: (ints .u8 ds)) 50) (AObj.ren [0] (AObj.cells ((AV.bool mx) :: (ints .u8 ds)) 50)),
          AV.ren [0] (AV.tuple [AV.int .i64 (capN (evenN ds w)), AV.bool (capB (evenN ds w))]) = AV.tuple [AV.int .i64 (evenN ds w), AV.bool true],
          updOf [0] [AObj.cells ((AV.bool mx) :: (ints .u8 ds)) 50] [AObj.cells ((AV.bool mx) :: (ints .u8 ds)) 50] [AObj.cells ((AV.bool mx) :: (ints .u8 ds)) 50] ++ List.map (fun x => x.ren [0]) (List.drop 1 [AObj.cells ((AV.bool mx) :: (ints .u8 ds)) 50]) = [AObj.cells ((AV.bool mx) :: (ints .u8 ds)) 50],
          AV.bool (!true) = AV.bool false,
          0 ≤ 0,
          ((AV.bool mx) :: (ints .u8 ds) : List AV)[0 - 0]? = some (AV.bool false),
          [AV.int .i64 (evenN ds w), AV.int .i64 e] = renL [] [AV.int .i64 (evenN ds w), AV.int .i64 e],
          Meets Try.prog 41 [AV.int .i64 (evenN ds w), AV.int .i64 e] [] (AV.agg [AV.int .i64 ((trimmedS (evenN ds w) e).1), AV.int .i64 ((trimmedS (evenN ds w) e).2)]) [],
          ([AV.int .i64 ((trimmedS (evenN ds w) e).1), AV.int .i64 ((trimmedS (evenN ds w) e).2)] : List AV).length = 2,
          0 + 2 ≤ List.length [AV.int .i64 0, AV.int .i64 0],
          AObj.cells (List.take 0 [AV.int .i64 0, AV.int .i64 0] ++ [AV.int .i64 ((trimmedS (evenN ds w) e).1), AV.int .i64 ((trimmedS (evenN ds w) e).2)] ++ List.drop (0 + 2) [AV.int .i64 0, AV.int .i64 0]) 23 = AObj.cells [AV.int .i64 ((trimmedS (evenN ds w) e).1), AV.int .i64 ((trimmedS (evenN ds w) e).2)] 23],
        .ret, ⟨[none, some (AV.ptr 0 0), some (AV.ptr 1 0), some (AV.int .i64 0), some (AV.int .i64 e), some (AV.int .i64 (evenN ds w)), some (AV.bool true), some (AV.int .i64 e), some (AV.bool true), none, none, some (AV.tuple [AV.int .i64 (evenN ds w), AV.bool true]), some (AV.int .i64 e), some (AV.tuple [AV.int .i64 (evenN ds w), AV.bool true]), some (AV.int .i64 (evenN ds w)), some (AV.bool true), some (AV.bool true), some (AV.bool false), some (AV.ptr 0 0), some (AV.bool false), none, none, some (AV.int .i64 (evenN ds w)), some (AV.int .i64 e), some (AV.agg [AV.int .i64 ((trimmedS (evenN ds w) e).1), AV.int .i64 ((trimmedS (evenN ds w) e).2)]), none], [some (AObj.cells ((AV.bool mx) :: (ints .u8 ds)) 50), some (AObj.cells [AV.int .i64 ((trimmedS (evenN ds w) e).1), AV.int .i64 ((trimmedS (evenN ds w) e).2)] 23)]⟩, []⟩ (by kernel_rfl)
      ⟨bT (by omega), rfl, even_meets mx ds e w hl hd (by omega) hw, Fits.of_eq (by simp only [AObj.ren, renL, AV.ren, renL_ints, renL_u8s, renL_append]), cap_pos h, by simp [updOf, AObj.owned, AObj.ren, renL, AV.ren, renL_ints, renL_u8s, renL_append], rfl, Nat.zero_le _, atF (rfl) c3, rfl, trimmed_meets (evenN ds w) e (by omega) (by omega), rfl, Nat.le_of_ble_eq_true rfl, rfl, trivial⟩) (by kernel_rfl)
      ⟨rfl, rfl, rfl, by simp only [*, if_true, if_false, Bool.false_eq_true], trivial⟩

def near_lost (mx : Bool) (ds : List Int) : AState :=
  ⟨[none, none, some (AV.ptr 1 0), none, none, none, none, none, none, none, none, none, none, none, none, none, none, none, none, none, none, none, none, none, none, none], [some (AObj.cells ((AV.bool mx) :: (ints .u8 ds)) 50), some (AObj.cells [AV.int .i64 0, AV.int .i64 0] 23)]⟩

theorem near_last (mx : Bool) (ds : List Int) (e : Int) (he : ¬ e ≤ 9) : Tri Try.prog (loopN (bodyOf Try.f32) 0) (near_inv mx ds e) (.exit 0) (near_lost mx ds) := by
  exact Tri.weak (ob := [AV.ptr 1 0 = AV.ptr 1 0,
        AObj.cells ((AV.bool mx) :: (ints .u8 ds)) 50 = AObj.cells ((AV.bool mx) :: (ints .u8 ds)) 50,
        AObj.cells [AV.int .i64 0, AV.int .i64 0] 23 = AObj.cells [AV.int .i64 0, AV.int .i64 0] 23]) (exec_sound _ [.reg [(1, {val := some (AV.bool false)})]] _
    ⟨[AV.bool (decide (e ≤ 9)) = AV.bool false],
      .exit 0, ⟨[none, some (AV.ptr 0 0), some (AV.ptr 1 0), some (AV.int .i64 0), some (AV.int .i64 e), none, none, some (AV.int .i64 e), some (AV.bool false), none, none, none, none, none, none, none, none, none, none, none, none, none, none, none, none, none], [some (AObj.cells ((AV.bool mx) :: (ints .u8 ds)) 50), some (AObj.cells [AV.int .i64 0, AV.int .i64 0] 23)]⟩, []⟩ (by kernel_rfl)
    ⟨bF he, trivial⟩) (by kernel_rfl)
    ⟨rfl, rfl, rfl, trivial⟩

theorem near_loop_none (mx : Bool) (ds : List Int) (hl : ds.length = 88) (hd : Dig ds) (h : nearGo ds 19 0 = none) : Tri Try.prog (.loop (loopN (bodyOf Try.f32) 0)) (near_inv mx ds (-9)) (.exit 0) (near_lost mx ds) :=
  tri_loop (ι := {q : Nat × Nat // q.1 + q.2 = 19 ∧ nearGo ds q.1 q.2 = none}) (fun i => near_inv mx ds ((i.1.2 : Int) - 9)) (fun i => i.1.1) (ne_normal_exit 0) (by
    rintro ⟨⟨n, j⟩, hj, h⟩
    simp only at hj h
    cases n with
    | zero => exact .inr (near_last mx ds _ (by simp only; omega))
    | succ n =>
      rw [nearGo] at h
      split at h
      · cases h
      · rename_i hc
        refine .inl ⟨⟨(n, j + 1), by simp only; omega, h⟩, Nat.lt_succ_self n, ?_⟩
        have := near_round mx ds ((j : Int) - 9) (57 - j) hl hd (by omega) (by omega) hc
        rwa [show (j : Int) - 9 + 1 = ((j + 1 : Nat) : Int) - 9 by omega] at this) ⟨(19, 0), rfl, h⟩
theorem near_loop_some (mx : Bool) (ds : List Int) (hl : ds.length = 88) (hd : Dig ds) (N e : Int) (h : nearGo ds 19 0 = some (N, e)) : Tri Try.prog (.loop (loopN (bodyOf Try.f32) 0)) (near_inv mx ds (-9)) .ret (near_found mx ds (trimmedS (if mx = true then -N else N) e).1 (trimmedS (if mx = true then -N else N) e).2) :=
  tri_loop (ι := {q : Nat × Nat // q.1 + q.2 = 19 ∧ nearGo ds q.1 q.2 = some (N, e)}) (fun i => near_inv mx ds ((i.1.2 : Int) - 9)) (fun i => i.1.1) ne_normal_ret (by
    rintro ⟨⟨n, j⟩, hj, h⟩
    simp only at hj h
    cases n with
    | zero => cases h
    | succ n =>
      rw [nearGo] at h
      split at h
      · rename_i hc
        simp only [Option.some.injEq, Prod.mk.injEq] at h
        obtain ⟨rfl, rfl⟩ := h
        exact .inr (near_got mx ds ((j : Int) - 9) (57 - j) hl hd (by omega) (by omega) hc)
      · rename_i hc
        refine .inl ⟨⟨(n, j + 1), by simp only; omega, h⟩, Nat.lt_succ_self n, ?_⟩
        have := near_round mx ds ((j : Int) - 9) (57 - j) hl hd (by omega) (by omega) hc
        rwa [show (j : Int) - 9 + 1 = ((j + 1 : Nat) : Int) - 9 by omega] at this) ⟨(19, 0), rfl, h⟩
theorem nearE_none {ds : List Int} {mx : Bool} (h : nearGo ds 19 0 = none) : AV.tuple [AV.agg [AV.int .i64 0, AV.int .i64 0], AV.int .i64 10] = AV.tuple [AV.agg [AV.int .i64 (nearM mx ds).1, AV.int .i64 (nearM mx ds).2], AV.int .i64 (nearE ds)] := by simp [nearM, nearE, h]
theorem nearE_some {ds : List Int} {mx : Bool} {N e : Int} (h : nearGo ds 19 0 = some (N, e)) : AV.tuple [AV.agg [AV.int .i64 (trimmedS (if mx = true then -N else N) e).1, AV.int .i64 (trimmedS (if mx = true then -N else N) e).2], AV.int .i64 0] = AV.tuple [AV.agg [AV.int .i64 (nearM mx ds).1, AV.int .i64 (nearM mx ds).2], AV.int .i64 (nearE ds)] := by simp [nearM, nearE, h]

theorem nearest_none (mx : Bool) (ds : List Int) (hl : ds.length = 88) (hd : Dig ds) (h : nearGo ds 19 0 = none) : Meets Try.prog 32 [AV.agg ((AV.bool mx) :: (ints .u8 ds))] [] (AV.tuple [AV.agg [AV.int .i64 ((nearM mx ds).1), AV.int .i64 ((nearM mx ds).2)], AV.int .i64 (nearE ds)]) [] := by
  exact meets_of_exec (fn := Try.f32) 2 [.reg [(0, {nm := [0]}), (1, {nm := [1]})], .reg [], .loop (⟨[none, some (AV.ptr 0 0), some (AV.ptr 1 0), some (AV.int .i64 0), some (AV.int .i64 (-9)), none, none, none, none, none, none, none, none, none, none, none, none, none, none, none, none, none, none, none, none, none], [some (AObj.cells ((AV.bool mx) :: (ints .u8 ds)) 50), some (AObj.cells [AV.int .i64 0, AV.int .i64 0] 23)]⟩) (.exit 0) (⟨[none, none, some (AV.ptr 1 0), none, none, none, none, none, none, none, none, none, none, none, none, none, none, none, none, none, none, none, none, none, none, none], [some (AObj.cells ((AV.bool mx) :: (ints .u8 ds)) 50), some (AObj.cells [AV.int .i64 0, AV.int .i64 0] 23)]⟩), .reg [(1, {obj := some [AObj.cells [AV.int .i64 0, AV.int .i64 0] 23]})]] [{val := some (AV.agg [AV.int .i64 0, AV.int .i64 0])}, {}]
    (r := ⟨[AV.ptr 0 0 = AV.ptr 0 0,
        AV.ptr 1 0 = AV.ptr 1 0,
        AV.int .i64 0 = AV.int .i64 0,
        AV.int .i64 (-9) = AV.int .i64 (-9),
        AObj.cells ((AV.bool mx) :: (ints .u8 ds)) 50 = AObj.cells ((AV.bool mx) :: (ints .u8 ds)) 50,
        AObj.cells [AV.int .i64 0, AV.int .i64 0] 23 = AObj.cells [AV.int .i64 0, AV.int .i64 0] 23,
        Tri Try.prog (.loop (loopN (bodyOf Try.f32) 0)) (⟨[none, some (AV.ptr 0 0), some (AV.ptr 1 0), some (AV.int .i64 0), some (AV.int .i64 (-9)), none, none, none, none, none, none, none, none, none, none, none, none, none, none, none, none, none, none, none, none, none], [some (AObj.cells ((AV.bool mx) :: (ints .u8 ds)) 50), some (AObj.cells [AV.int .i64 0, AV.int .i64 0] 23)]⟩) (.exit 0) (⟨[none, none, some (AV.ptr 1 0), none, none, none, none, none, none, none, none, none, none, none, none, none, none, none, none, none, none, none, none, none, none, none], [some (AObj.cells ((AV.bool mx) :: (ints .u8 ds)) 50), some (AObj.cells [AV.int .i64 0, AV.int .i64 0] 23)]⟩),
        ([AV.int .i64 0, AV.int .i64 0] : List AV).length = 2,
        0 + 2 ≤ List.length [AV.int .i64 0, AV.int .i64 0],
        AObj.cells (List.take 0 [AV.int .i64 0, AV.int .i64 0] ++ [AV.int .i64 0, AV.int .i64 0] ++ List.drop (0 + 2) [AV.int .i64 0, AV.int .i64 0]) 23 = AObj.cells [AV.int .i64 0, AV.int .i64 0] 23],
      .ret, ⟨[none, none, some (AV.ptr 1 0), some (AV.int .i64 10), none, none, none, none, none, none, none, none, none, none, none, none, none, none, none, none, none, none, none, none, none, some (AV.agg [AV.int .i64 0, AV.int .i64 0])], [some (AObj.cells ((AV.bool mx) :: (ints .u8 ds)) 50), some (AObj.cells [AV.int .i64 0, AV.int .i64 0] 23)]⟩, []⟩)
    (ob := [0 ≤ 0,
        0 - 0 + 2 ≤ List.length [AV.int .i64 0, AV.int .i64 0],
        List.take 2 (List.drop (0 - 0) [AV.int .i64 0, AV.int .i64 0]) = [AV.int .i64 0, AV.int .i64 0],
        AV.tuple [AV.agg [AV.int .i64 0, AV.int .i64 0], AV.int .i64 10] = AV.tuple [AV.agg [AV.int .i64 ((nearM mx ds).1), AV.int .i64 ((nearM mx ds).2)], AV.int .i64 (nearE ds)],
        Avoid (fun n => decide (0 ≤ n)) (AV.tuple [AV.agg [AV.int .i64 ((nearM mx ds).1), AV.int .i64 ((nearM mx ds).2)], AV.int .i64 (nearE ds)])])
    Try.func32 (by kernel_rfl) Try.call32 (by kernel_rfl)
    ⟨rfl, rfl, rfl, rfl, rfl, rfl, near_loop_none mx ds hl hd h, rfl, Nat.le_of_ble_eq_true rfl, rfl, trivial⟩
    (.inl rfl) (by kernel_rfl) ⟨Nat.zero_le _, Nat.le_of_ble_eq_true rfl, rfl, nearE_none h, Avoid.tuple (AvoidL.cons (Avoid.agg (AvoidL.cons (Avoid.int _ _ _) (AvoidL.cons (Avoid.int _ _ _) (AvoidL.nil _)))) (AvoidL.cons (Avoid.int _ _ _) (AvoidL.nil _))), trivial⟩

theorem nearest_some (mx : Bool) (ds : List Int) (N e : Int) (hl : ds.length = 88) (hd : Dig ds) (h : nearGo ds 19 0 = some (N, e)) : Meets Try.prog 32 [AV.agg ((AV.bool mx) :: (ints .u8 ds))] [] (AV.tuple [AV.agg [AV.int .i64 ((nearM mx ds).1), AV.int .i64 ((nearM mx ds).2)], AV.int .i64 (nearE ds)]) [] := by
  exact meets_of_exec (fn := Try.f32) 2 [.reg [(0, {nm := [0]}), (1, {nm := [1]})], .reg [], .loop (⟨[none, some (AV.ptr 0 0), some (AV.ptr 1 0), some (AV.int .i64 0), some (AV.int .i64 (-9)), none, none, none, none, none, none, none, none, none, none, none, none, none, none, none, none, none, none, none, none, none], [some (AObj.cells ((AV.bool mx) :: (ints .u8 ds)) 50), some (AObj.cells [AV.int .i64 0, AV.int .i64 0] 23)]⟩) .ret (⟨[none, none, some (AV.ptr 1 0), some (AV.int .i64 0), none, none, none, none, none, none, none, none, none, none, none, none, none, none, none, none, none, none, none, none, none, none], [some (AObj.cells ((AV.bool mx) :: (ints .u8 ds)) 50), some (AObj.cells [AV.int .i64 ((trimmedS (if mx = true then -N else N) e).1), AV.int .i64 ((trimmedS (if mx = true then -N else N) e).2)] 23)]⟩)] [{val := some (AV.agg [AV.int .i64 ((trimmedS (if mx = true then -N else N) e).1), AV.int .i64 ((trimmedS (if mx = true then -N else N) e).2)])}, {}]
    (r := ⟨[AV.ptr 0 0 = AV.ptr 0 0,
        AV.ptr 1 0 = AV.ptr 1 0,
        AV.int .i64 0 = AV.int .i64 0,
        AV.int .i64 (-9) = AV.int .i64 (-9),
        AObj.cells ((AV.bool mx) :: (ints .u8 ds)) 50 = AObj.cells ((AV.bool mx) :: (ints .u8 ds)) 50,
        AObj.cells [AV.int .i64 0, AV.int .i64 0] 23 = AObj.cells [AV.int .i64 0, AV.int .i64 0] 23,
        Tri Try.prog (.loop (loopN (bodyOf Try.f32) 0)) (⟨[none, some (AV.ptr 0 0), some (AV.ptr 1 0), some (AV.int .i64 0), some (AV.int .i64 (-9)), none, none, none, none, none, none, none, none, none, none, none, none, none, none, none, none, none, none, none, none, none], [some (AObj.cells ((AV.bool mx) :: (ints .u8 ds)) 50), some (AObj.cells [AV.int .i64 0, AV.int .i64 0] 23)]⟩) .ret (⟨[none, none, some (AV.ptr 1 0), some (AV.int .i64 0), none, none, none, none, none, none, none, none, none, none, none, none, none, none, none, none, none, none, none, none, none, none], [some (AObj.cells ((AV.bool mx) :: (ints .u8 ds)) 50), some (AObj.cells [AV.int .i64 ((trimmedS (if mx = true then -N else N) e).1), AV.int .i64 ((trimmedS (if mx = true then -N else N) e).2)] 23)]⟩)],
      .ret, ⟨[none, none, some (AV.ptr 1 0), some (AV.int .i64 0), none, none, none, none, none, none, none, none, none, none, none, none, none, none, none, none, none, none, none, none, none, none], [some (AObj.cells ((AV.bool mx) :: (ints .u8 ds)) 50), some (AObj.cells [AV.int .i64 ((trimmedS (if mx = true then -N else N) e).1), AV.int .i64 ((trimmedS (if mx = true then -N else N) e).2)] 23)]⟩, []⟩)
    (ob := [0 ≤ 0,
        0 - 0 + 2 ≤ List.length [AV.int .i64 ((trimmedS (if mx = true then -N else N) e).1), AV.int .i64 ((trimmedS (if mx = true then -N else N) e).2)],
        List.take 2 (List.drop (0 - 0) [AV.int .i64 ((trimmedS (if mx = true then -N else N) e).1), AV.int .i64 ((trimmedS (if mx = true then -N else N) e).2)]) = [AV.int .i64 ((trimmedS (if mx = true then -N else N) e).1), AV.int .i64 ((trimmedS (if mx = true then -N else N) e).2)],
        AV.tuple [AV.agg [AV.int .i64 ((trimmedS (if mx = true then -N else N) e).1), AV.int .i64 ((trimmedS (if mx = true then -N else N) e).2)], AV.int .i64 0] = AV.tuple [AV.agg [AV.int .i64 ((nearM mx ds).1), AV.int .i64 ((nearM mx ds).2)], AV.int .i64 (nearE ds)],
        Avoid (fun n => decide (0 ≤ n)) (AV.tuple [AV.agg [AV.int .i64 ((nearM mx ds).1), AV.int .i64 ((nearM mx ds).2)], AV.int .i64 (nearE ds)])])
    Try.func32 (by kernel_rfl) Try.call32 (by kernel_rfl)
    ⟨rfl, rfl, rfl, rfl, rfl, rfl, near_loop_some mx ds hl hd N e h, trivial⟩
    (.inl rfl) (by kernel_rfl) ⟨Nat.zero_le _, Nat.le_of_ble_eq_true rfl, rfl, nearE_some h, Avoid.tuple (AvoidL.cons (Avoid.agg (AvoidL.cons (Avoid.int _ _ _) (AvoidL.cons (Avoid.int _ _ _) (AvoidL.nil _)))) (AvoidL.cons (Avoid.int _ _ _) (AvoidL.nil _))), trivial⟩

theorem nearest_meets (mx : Bool) (ds : List Int) (hl : ds.length = 88) (hd : Dig ds) : Meets Try.prog 32 [AV.agg (AV.bool mx :: ints .u8 ds)] [] (AV.tuple [AV.agg [AV.int .i64 ((nearM mx ds).1), AV.int .i64 ((nearM mx ds).2)], AV.int .i64 (nearE ds)]) [] := by
  cases h : nearGo ds 19 0 with
  | none => exact nearest_none mx ds hl hd h
  | some p => exact nearest_some mx ds p.1 p.2 hl hd h

end Go.Proofs.Ytabgphldbgdbpaa
