import Derived.Test.YtabgphldbgdbpaaDecO
set_option linter.unusedVariables false
set_option linter.unusedSimpArgs false
set_option maxRecDepth 20000
namespace Go.Proofs.Ytabgphldbgdbpaa
open Go Sx Dc

def chB (d : Int) : UInt8 := UInt8.ofNat (48 + d).toNat
/-- The first figure that is shown, and the last one's end. -/
def fstGo (ds : List Int) : Nat → Nat → Nat
  | 0, k => k
  | f + 1, k => if k < 47 ∧ ds.getD k 0 = 0 then fstGo ds f (k + 1) else k
def lstGo (ds : List Int) : Nat → Nat → Nat
  | 0, k => k
  | f + 1, k => if 48 < k ∧ ds.getD (k - 1) 0 = 0 then lstGo ds f (k - 1) else k
def txt (ds : List Int) (a : Nat) : Nat → List UInt8
  | 0 => []
  | n + 1 => txt ds a n ++ ((if a + n = 48 then [46] else []) ++ [chB (ds.getD (a + n) 0)])
def textB (mx : Bool) (ds : List Int) : List UInt8 := (if mx = true then [45] else []) ++ txt ds (fstGo ds 47 0) (lstGo ds 40 88 - fstGo ds 47 0)
theorem fstGo_le (ds : List Int) : ∀ (f k : Nat), k ≤ 47 → fstGo ds f k ≤ 47
  | 0, k, h => h
  | f + 1, k, h => by
    rw [fstGo]; split
    · exact fstGo_le ds f (k + 1) (by omega)
    · exact h
theorem lstGo_ge (ds : List Int) : ∀ (f k : Nat), 48 ≤ k → 48 ≤ lstGo ds f k ∧ lstGo ds f k ≤ k
  | 0, k, h => ⟨h, Nat.le_refl _⟩
  | f + 1, k, h => by
    rw [lstGo]; split
    · have := lstGo_ge ds f (k - 1) (by omega); omega
    · exact ⟨h, Nat.le_refl _⟩
theorem txt_len (ds : List Int) (a : Nat) : ∀ n, (txt ds a n).length ≤ 2 * n
  | 0 => by simp [txt]
  | n + 1 => by
    have := txt_len ds a n
    rw [txt]
    split <;> simp <;> omega

def text_i0 (am ae : Int) (mx : Bool) (ds : List Int) (k : Nat) : AState :=
  ⟨[none, none, none, none, some (AV.ptr 1 0), some (AV.int .i64 ((k : Nat) : Int)), some (AV.int .i64 88), none, none, none, none, none, none, none, none, none, none, none, none, none, none, none, none, none, none, none, none, none, none, none, none, none, none, none, none, none, none, none, none, none, none, none, none, none, none, none, none, none, none, none, none, none, none, none, none, none], [some (AObj.cells [AV.int .i64 am, AV.int .i64 ae] 23), some (AObj.cells ((AV.bool mx) :: (ints .u8 ds)) 50), none, none, none, none, none]⟩

theorem text_r0 (am ae : Int) (mx : Bool) (ds : List Int) (k : Nat) (hl : ds.length = 88) (h1 : k < 47) (h2 : ds.getD k 0 = 0) : Tri Try.prog (loopN (bodyOf Try.f29) 0) (text_i0 am ae mx ds k) .normal (text_i0 am ae mx ds (k + 1)) := by
  exact Tri.weak (ob := [AV.ptr 1 0 = AV.ptr 1 0,
        AV.int .i64 ((k + 1 : Nat) : Int) = AV.int .i64 ((k + 1 : Nat) : Int),
        AV.int .i64 88 = AV.int .i64 88,
        AObj.cells [AV.int .i64 am, AV.int .i64 ae] 23 = AObj.cells [AV.int .i64 am, AV.int .i64 ae] 23,
        AObj.cells ((AV.bool mx) :: (ints .u8 ds)) 50 = AObj.cells ((AV.bool mx) :: (ints .u8 ds)) 50]) (exec_sound _ [.reg [(1, {val := some (AV.bool true)}), (5, {val := some (AV.ptr 1 (k + 1))}), (6, {val := some (AV.int .u8 (ds.getD k 0))}), (7, {val := some (AV.bool true)})], .reg [(1, {val := some (AV.int .i64 ((k + 1 : Nat) : Int))})]] _
    ⟨[AV.bool (decide (((k : Nat) : Int) < 47)) = AV.bool true,
        0 ≤ ((k : Nat) : Int),
        ((k : Nat) : Int) < ((88 : Nat) : Int),
        AV.ptr 1 (1 + Int.toNat ((k : Nat) : Int) * 1) = AV.ptr 1 (k + 1),
        0 ≤ (k + 1),
        ((AV.bool mx) :: (ints .u8 ds) : List AV)[(k + 1) - 0]? = some (AV.int .u8 (ds.getD k 0)),
        AV.bool ((ds.getD k 0) == 0) = AV.bool true,
        AV.int .i64 (IntKind.i64.wrap (((k : Nat) : Int) + 1)) = AV.int .i64 ((k + 1 : Nat) : Int)],
      .normal, ⟨[none, none, none, none, some (AV.ptr 1 0), some (AV.int .i64 ((k + 1 : Nat) : Int)), some (AV.int .i64 88), none, none, none, none, none, none, none, some (AV.int .i64 ((k : Nat) : Int)), some (AV.bool true), some (AV.bool true), some (AV.int .i64 ((k : Nat) : Int)), some (AV.ptr 1 1), some (AV.ptr 1 (k + 1)), some (AV.int .u8 (ds.getD k 0)), some (AV.bool true), some (AV.bool true), some (AV.int .i64 ((k : Nat) : Int)), some (AV.int .i64 ((k + 1 : Nat) : Int)), none, none, none, none, none, none, none, none, none, none, none, none, none, none, none, none, none, none, none, none, none, none, none, none, none, none, none, none, none, none, none], [some (AObj.cells [AV.int .i64 am, AV.int .i64 ae] 23), some (AObj.cells ((AV.bool mx) :: (ints .u8 ds)) 50), none, none, none, none, none]⟩, []⟩ (by kernel_rfl)
    ⟨bT (by omega), by omega, by omega, ptrE (by omega), Nat.zero_le _, ints_get' (by omega), eqT h2, wI (by omega), trivial⟩) (by kernel_rfl)
    ⟨rfl, rfl, rfl, rfl, rfl, trivial⟩

theorem text_x0 (am ae : Int) (mx : Bool) (ds : List Int) (k : Nat) (hl : ds.length = 88) (h : ¬ (k < 47 ∧ ds.getD k 0 = 0)) : Tri Try.prog (loopN (bodyOf Try.f29) 0) (text_i0 am ae mx ds k) (.exit 0) (text_i0 am ae mx ds k) := by
  by_cases c1 : ((k : Nat) : Int) < 47
  · by_cases c2 : (ds.getD k 0) = 0
    · exact absurd ⟨by omega, ‹_›⟩ h
    · exact Tri.weak (ob := [AV.ptr 1 0 = AV.ptr 1 0,
            AV.int .i64 ((k : Nat) : Int) = AV.int .i64 ((k : Nat) : Int),
            AV.int .i64 88 = AV.int .i64 88,
            AObj.cells [AV.int .i64 am, AV.int .i64 ae] 23 = AObj.cells [AV.int .i64 am, AV.int .i64 ae] 23,
            AObj.cells ((AV.bool mx) :: (ints .u8 ds)) 50 = AObj.cells ((AV.bool mx) :: (ints .u8 ds)) 50]) (exec_sound _ [.reg [(1, {val := some (AV.bool true)}), (5, {val := some (AV.ptr 1 (k + 1))}), (6, {val := some (AV.int .u8 (ds.getD k 0))}), (7, {val := some (AV.bool false)})]] _
        ⟨[AV.bool (decide (((k : Nat) : Int) < 47)) = AV.bool true,
            0 ≤ ((k : Nat) : Int),
            ((k : Nat) : Int) < ((88 : Nat) : Int),
            AV.ptr 1 (1 + Int.toNat ((k : Nat) : Int) * 1) = AV.ptr 1 (k + 1),
            0 ≤ (k + 1),
            ((AV.bool mx) :: (ints .u8 ds) : List AV)[(k + 1) - 0]? = some (AV.int .u8 (ds.getD k 0)),
            AV.bool ((ds.getD k 0) == 0) = AV.bool false],
          .exit 0, ⟨[none, none, none, none, some (AV.ptr 1 0), some (AV.int .i64 ((k : Nat) : Int)), some (AV.int .i64 88), none, none, none, none, none, none, none, some (AV.int .i64 ((k : Nat) : Int)), some (AV.bool true), some (AV.bool true), some (AV.int .i64 ((k : Nat) : Int)), some (AV.ptr 1 1), some (AV.ptr 1 (k + 1)), some (AV.int .u8 (ds.getD k 0)), some (AV.bool false), some (AV.bool false), none, none, none, none, none, none, none, none, none, none, none, none, none, none, none, none, none, none, none, none, none, none, none, none, none, none, none, none, none, none, none, none, none], [some (AObj.cells [AV.int .i64 am, AV.int .i64 ae] 23), some (AObj.cells ((AV.bool mx) :: (ints .u8 ds)) 50), none, none, none, none, none]⟩, []⟩ (by kernel_rfl)
        ⟨bT c1, by omega, by omega, ptrE (by omega), Nat.zero_le _, ints_get' (by omega), eqF c2, trivial⟩) (by kernel_rfl)
        ⟨rfl, rfl, rfl, rfl, rfl, trivial⟩
  · exact Tri.weak (ob := [AV.ptr 1 0 = AV.ptr 1 0,
          AV.int .i64 ((k : Nat) : Int) = AV.int .i64 ((k : Nat) : Int),
          AV.int .i64 88 = AV.int .i64 88,
          AObj.cells [AV.int .i64 am, AV.int .i64 ae] 23 = AObj.cells [AV.int .i64 am, AV.int .i64 ae] 23,
          AObj.cells ((AV.bool mx) :: (ints .u8 ds)) 50 = AObj.cells ((AV.bool mx) :: (ints .u8 ds)) 50]) (exec_sound _ [.reg [(1, {val := some (AV.bool false)})]] _
      ⟨[AV.bool (decide (((k : Nat) : Int) < 47)) = AV.bool false],
        .exit 0, ⟨[none, none, none, none, some (AV.ptr 1 0), some (AV.int .i64 ((k : Nat) : Int)), some (AV.int .i64 88), none, none, none, none, none, none, none, some (AV.int .i64 ((k : Nat) : Int)), some (AV.bool false), some (AV.bool false), some (AV.tuple []), some (AV.tuple []), some (AV.tuple []), some (AV.tuple []), some (AV.tuple []), some (AV.bool false), none, none, none, none, none, none, none, none, none, none, none, none, none, none, none, none, none, none, none, none, none, none, none, none, none, none, none, none, none, none, none, none, none], [some (AObj.cells [AV.int .i64 am, AV.int .i64 ae] 23), some (AObj.cells ((AV.bool mx) :: (ints .u8 ds)) 50), none, none, none, none, none]⟩, []⟩ (by kernel_rfl)
      ⟨bF c1, trivial⟩) (by kernel_rfl)
      ⟨rfl, rfl, rfl, rfl, rfl, trivial⟩

theorem text_l0 (am ae : Int) (mx : Bool) (ds : List Int) (hl : ds.length = 88) (f k : Nat) (hk : f + k = 47) : Tri Try.prog (.loop (loopN (bodyOf Try.f29) 0)) (text_i0 am ae mx ds k) (.exit 0) (text_i0 am ae mx ds (fstGo ds f k)) :=
  tri_loop (ι := {q : Nat × Nat // q.1 + q.2 = 47 ∧ fstGo ds q.1 q.2 = fstGo ds f k}) (fun q => text_i0 am ae mx ds q.1.2) (fun q => q.1.1) (ne_normal_exit 0) (by
    rintro ⟨⟨n, j⟩, h1, h2⟩
    simp only at h1 h2
    cases n with
    | zero =>
      rw [fstGo] at h2
      refine .inr ?_
      show Tri _ _ (text_i0 am ae mx ds j) _ _
      rw [← h2]; exact text_x0 am ae mx ds j hl (by omega)
    | succ n =>
      by_cases hc : j < 47 ∧ ds.getD j 0 = 0
      · rw [fstGo, if_pos hc] at h2
        exact .inl ⟨⟨(n, j + 1), by simp only; omega, h2⟩, Nat.lt_succ_self n, text_r0 am ae mx ds j hl hc.1 hc.2⟩
      · rw [fstGo, if_neg hc] at h2
        refine .inr ?_
        show Tri _ _ (text_i0 am ae mx ds j) _ _
        rw [← h2]; exact text_x0 am ae mx ds j hl hc) ⟨(f, k), hk, rfl⟩

def text_i1 (am ae : Int) (mx : Bool) (ds : List Int) (a k : Nat) : AState :=
  ⟨[none, none, none, none, some (AV.ptr 1 0), some (AV.int .i64 ((a : Nat) : Int)), some (AV.int .i64 ((k : Nat) : Int)), none, none, none, none, none, none, none, none, none, none, none, none, none, none, none, none, none, none, none, none, none, none, none, none, none, none, none, none, none, none, none, none, none, none, none, none, none, none, none, none, none, none, none, none, none, none, none, none, none], [some (AObj.cells [AV.int .i64 am, AV.int .i64 ae] 23), some (AObj.cells ((AV.bool mx) :: (ints .u8 ds)) 50), none, none, none, none, none]⟩

theorem text_r1 (am ae : Int) (mx : Bool) (ds : List Int) (a k : Nat) (hl : ds.length = 88) (hk : k ≤ 88) (h1 : 48 < k) (h2 : ds.getD (k - 1) 0 = 0) : Tri Try.prog (loopN (bodyOf Try.f29) 1) (text_i1 am ae mx ds a k) .normal (text_i1 am ae mx ds a (k - 1)) := by
  exact Tri.weak (ob := [AV.ptr 1 0 = AV.ptr 1 0,
        AV.int .i64 ((a : Nat) : Int) = AV.int .i64 ((a : Nat) : Int),
        AV.int .i64 (((k - 1) : Nat) : Int) = AV.int .i64 (((k - 1) : Nat) : Int),
        AObj.cells [AV.int .i64 am, AV.int .i64 ae] 23 = AObj.cells [AV.int .i64 am, AV.int .i64 ae] 23,
        AObj.cells ((AV.bool mx) :: (ints .u8 ds)) 50 = AObj.cells ((AV.bool mx) :: (ints .u8 ds)) 50]) (exec_sound _ [.reg [(1, {val := some (AV.bool true)}), (4, {val := some (AV.int .i64 (((k - 1) : Nat) : Int))}), (6, {val := some (AV.ptr 1 ((k - 1) + 1))}), (7, {val := some (AV.int .u8 (ds.getD (k - 1) 0))}), (8, {val := some (AV.bool true)})], .reg [(1, {val := some (AV.int .i64 (((k - 1) : Nat) : Int))})]] _
    ⟨[AV.bool (decide (((k : Nat) : Int) > 48)) = AV.bool true,
        AV.int .i64 (IntKind.i64.wrap (((k : Nat) : Int) - 1)) = AV.int .i64 (((k - 1) : Nat) : Int),
        0 ≤ (((k - 1) : Nat) : Int),
        (((k - 1) : Nat) : Int) < ((88 : Nat) : Int),
        AV.ptr 1 (1 + Int.toNat (((k - 1) : Nat) : Int) * 1) = AV.ptr 1 ((k - 1) + 1),
        0 ≤ ((k - 1) + 1),
        ((AV.bool mx) :: (ints .u8 ds) : List AV)[((k - 1) + 1) - 0]? = some (AV.int .u8 (ds.getD (k - 1) 0)),
        AV.bool ((ds.getD (k - 1) 0) == 0) = AV.bool true,
        AV.int .i64 (IntKind.i64.wrap (((k : Nat) : Int) - 1)) = AV.int .i64 (((k - 1) : Nat) : Int)],
      .normal, ⟨[none, none, none, none, some (AV.ptr 1 0), some (AV.int .i64 ((a : Nat) : Int)), some (AV.int .i64 (((k - 1) : Nat) : Int)), none, none, none, none, none, none, none, none, none, none, none, none, none, none, none, none, none, none, some (AV.int .i64 ((k : Nat) : Int)), some (AV.bool true), some (AV.bool true), some (AV.int .i64 ((k : Nat) : Int)), some (AV.int .i64 (((k - 1) : Nat) : Int)), some (AV.ptr 1 1), some (AV.ptr 1 ((k - 1) + 1)), some (AV.int .u8 (ds.getD (k - 1) 0)), some (AV.bool true), some (AV.bool true), some (AV.int .i64 ((k : Nat) : Int)), some (AV.int .i64 (((k - 1) : Nat) : Int)), none, none, none, none, none, none, none, none, none, none, none, none, none, none, none, none, none, none, none], [some (AObj.cells [AV.int .i64 am, AV.int .i64 ae] 23), some (AObj.cells ((AV.bool mx) :: (ints .u8 ds)) 50), none, none, none, none, none]⟩, []⟩ (by kernel_rfl)
    ⟨bT (by omega), wI (by omega), by omega, by omega, ptrE (by omega), Nat.zero_le _, ints_get' (by omega), eqT h2, wI (by omega), trivial⟩) (by kernel_rfl)
    ⟨rfl, rfl, rfl, rfl, rfl, trivial⟩

theorem text_x1 (am ae : Int) (mx : Bool) (ds : List Int) (a k : Nat) (hl : ds.length = 88) (hk : k ≤ 88) (h : ¬ (48 < k ∧ ds.getD (k - 1) 0 = 0)) : Tri Try.prog (loopN (bodyOf Try.f29) 1) (text_i1 am ae mx ds a k) (.exit 2) (text_i1 am ae mx ds a k) := by
  by_cases c1 : ((k : Nat) : Int) > 48
  · by_cases c2 : (ds.getD (k - 1) 0) = 0
    · exact absurd ⟨by omega, ‹_›⟩ h
    · exact Tri.weak (ob := [AV.ptr 1 0 = AV.ptr 1 0,
            AV.int .i64 ((a : Nat) : Int) = AV.int .i64 ((a : Nat) : Int),
            AV.int .i64 ((k : Nat) : Int) = AV.int .i64 ((k : Nat) : Int),
            AObj.cells [AV.int .i64 am, AV.int .i64 ae] 23 = AObj.cells [AV.int .i64 am, AV.int .i64 ae] 23,
            AObj.cells ((AV.bool mx) :: (ints .u8 ds)) 50 = AObj.cells ((AV.bool mx) :: (ints .u8 ds)) 50]) (exec_sound _ [.reg [(1, {val := some (AV.bool true)}), (4, {val := some (AV.int .i64 (((k - 1) : Nat) : Int))}), (6, {val := some (AV.ptr 1 ((k - 1) + 1))}), (7, {val := some (AV.int .u8 (ds.getD (k - 1) 0))}), (8, {val := some (AV.bool false)})]] _
        ⟨[AV.bool (decide (((k : Nat) : Int) > 48)) = AV.bool true,
            AV.int .i64 (IntKind.i64.wrap (((k : Nat) : Int) - 1)) = AV.int .i64 (((k - 1) : Nat) : Int),
            0 ≤ (((k - 1) : Nat) : Int),
            (((k - 1) : Nat) : Int) < ((88 : Nat) : Int),
            AV.ptr 1 (1 + Int.toNat (((k - 1) : Nat) : Int) * 1) = AV.ptr 1 ((k - 1) + 1),
            0 ≤ ((k - 1) + 1),
            ((AV.bool mx) :: (ints .u8 ds) : List AV)[((k - 1) + 1) - 0]? = some (AV.int .u8 (ds.getD (k - 1) 0)),
            AV.bool ((ds.getD (k - 1) 0) == 0) = AV.bool false],
          .exit 2, ⟨[none, none, none, none, some (AV.ptr 1 0), some (AV.int .i64 ((a : Nat) : Int)), some (AV.int .i64 ((k : Nat) : Int)), none, none, none, none, none, none, none, none, none, none, none, none, none, none, none, none, none, none, some (AV.int .i64 ((k : Nat) : Int)), some (AV.bool true), some (AV.bool true), some (AV.int .i64 ((k : Nat) : Int)), some (AV.int .i64 (((k - 1) : Nat) : Int)), some (AV.ptr 1 1), some (AV.ptr 1 ((k - 1) + 1)), some (AV.int .u8 (ds.getD (k - 1) 0)), some (AV.bool false), some (AV.bool false), none, none, none, none, none, none, none, none, none, none, none, none, none, none, none, none, none, none, none, none, none], [some (AObj.cells [AV.int .i64 am, AV.int .i64 ae] 23), some (AObj.cells ((AV.bool mx) :: (ints .u8 ds)) 50), none, none, none, none, none]⟩, []⟩ (by kernel_rfl)
        ⟨bT c1, wI (by omega), by omega, by omega, ptrE (by omega), Nat.zero_le _, ints_get' (by omega), eqF c2, trivial⟩) (by kernel_rfl)
        ⟨rfl, rfl, rfl, rfl, rfl, trivial⟩
  · exact Tri.weak (ob := [AV.ptr 1 0 = AV.ptr 1 0,
          AV.int .i64 ((a : Nat) : Int) = AV.int .i64 ((a : Nat) : Int),
          AV.int .i64 ((k : Nat) : Int) = AV.int .i64 ((k : Nat) : Int),
          AObj.cells [AV.int .i64 am, AV.int .i64 ae] 23 = AObj.cells [AV.int .i64 am, AV.int .i64 ae] 23,
          AObj.cells ((AV.bool mx) :: (ints .u8 ds)) 50 = AObj.cells ((AV.bool mx) :: (ints .u8 ds)) 50]) (exec_sound _ [.reg [(1, {val := some (AV.bool false)})]] _
      ⟨[AV.bool (decide (((k : Nat) : Int) > 48)) = AV.bool false],
        .exit 2, ⟨[none, none, none, none, some (AV.ptr 1 0), some (AV.int .i64 ((a : Nat) : Int)), some (AV.int .i64 ((k : Nat) : Int)), none, none, none, none, none, none, none, none, none, none, none, none, none, none, none, none, none, none, some (AV.int .i64 ((k : Nat) : Int)), some (AV.bool false), some (AV.bool false), some (AV.tuple []), some (AV.tuple []), some (AV.tuple []), some (AV.tuple []), some (AV.tuple []), some (AV.tuple []), some (AV.bool false), none, none, none, none, none, none, none, none, none, none, none, none, none, none, none, none, none, none, none, none, none], [some (AObj.cells [AV.int .i64 am, AV.int .i64 ae] 23), some (AObj.cells ((AV.bool mx) :: (ints .u8 ds)) 50), none, none, none, none, none]⟩, []⟩ (by kernel_rfl)
      ⟨bF c1, trivial⟩) (by kernel_rfl)
      ⟨rfl, rfl, rfl, rfl, rfl, trivial⟩

theorem text_l1 (am ae : Int) (mx : Bool) (ds : List Int) (a : Nat) (hl : ds.length = 88) (f k : Nat) (hk : k = 48 + f) (hf : f ≤ 40) : Tri Try.prog (.loop (loopN (bodyOf Try.f29) 1)) (text_i1 am ae mx ds a k) (.exit 2) (text_i1 am ae mx ds a (lstGo ds f k)) :=
  tri_loop (ι := {q : Nat × Nat // q.2 = 48 + q.1 ∧ q.1 ≤ 40 ∧ lstGo ds q.1 q.2 = lstGo ds f k}) (fun q => text_i1 am ae mx ds a q.1.2) (fun q => q.1.1) (ne_normal_exit 2) (by
    rintro ⟨⟨n, j⟩, h1, h3, h2⟩
    simp only at h1 h2 h3
    cases n with
    | zero =>
      rw [lstGo] at h2
      refine .inr ?_
      show Tri _ _ (text_i1 am ae mx ds a j) _ _
      rw [← h2]; exact text_x1 am ae mx ds a j hl (by omega) (by omega)
    | succ n =>
      by_cases hc : 48 < j ∧ ds.getD (j - 1) 0 = 0
      · rw [lstGo, if_pos hc] at h2
        exact .inl ⟨⟨(n, j - 1), by simp only; omega, by simp only; omega, h2⟩, Nat.lt_succ_self n, text_r1 am ae mx ds a j hl (by omega) hc.1 hc.2⟩
      · rw [lstGo, if_neg hc] at h2
        refine .inr ?_
        show Tri _ _ (text_i1 am ae mx ds a j) _ _
        rw [← h2]; exact text_x1 am ae mx ds a j hl (by omega) hc) ⟨(f, k), hk, hf, rfl⟩

def text_new (am ae : Int) (mx : Bool) (ds : List Int) (b k : Nat) : AState :=
  ⟨[none, none, none, none, some (AV.ptr 1 0), none, some (AV.int .i64 ((b : Nat) : Int)), some (AV.ptr 2 0), some (AV.int .i64 ((k : Nat) : Int)), none, none, none, none, none, none, none, none, none, none, none, none, none, none, none, none, none, none, none, none, none, none, none, none, none, none, none, none, none, none, none, none, none, none, none, none, none, none, none, none, none, none, none, none, none, none, none], [some (AObj.cells [AV.int .i64 am, AV.int .i64 ae] 23), some (AObj.cells ((AV.bool mx) :: (ints .u8 ds)) 50), some (AObj.cells [AV.nilptr, AV.nilslice] 75), none, none, none, none]⟩

def text_used (am ae : Int) (mx : Bool) (ds : List Int) (b k : Nat) (t : List UInt8) : AState :=
  ⟨[none, none, none, none, some (AV.ptr 1 0), none, some (AV.int .i64 ((b : Nat) : Int)), some (AV.ptr 2 0), some (AV.int .i64 ((k : Nat) : Int)), none, none, none, none, none, none, none, none, none, none, none, none, none, none, none, none, none, none, none, none, none, none, none, none, none, none, none, none, none, none, none, none, none, none, none, none, none, none, none, none, none, none, none, none, none, none, none], [some (AObj.cells [AV.int .i64 am, AV.int .i64 ae] 23), some (AObj.cells ((AV.bool mx) :: (ints .u8 ds)) 50), some (AObj.cells [AV.ptr 2 0, AV.vec 3 t.length] 75), some (AObj.vec (u8s t) 5 1), none, none, none]⟩

theorem text_r2n (am ae : Int) (mx : Bool) (ds : List Int) (b k : Nat) (hl : ds.length = 88) (hb : b ≤ 88) (h1 : k < b) (hd : 0 ≤ ds.getD k 0 ∧ ds.getD k 0 ≤ 9) (h48 : ¬ ((k : Nat) : Int) = 48) : Tri Try.prog (loopN (bodyOf Try.f29) 2) (text_new am ae mx ds b k) .normal (text_used am ae mx ds b (k + 1) [UInt8.ofNat (Int.toNat (48 + ds.getD k 0))]) := by
  exact Tri.weak (ob := [AV.ptr 1 0 = AV.ptr 1 0,
        AV.int .i64 ((b : Nat) : Int) = AV.int .i64 ((b : Nat) : Int),
        AV.ptr 2 0 = AV.ptr 2 0,
        AV.int .i64 ((k + 1 : Nat) : Int) = AV.int .i64 ((k + 1 : Nat) : Int),
        AObj.cells [AV.int .i64 am, AV.int .i64 ae] 23 = AObj.cells [AV.int .i64 am, AV.int .i64 ae] 23,
        AObj.cells ((AV.bool mx) :: (ints .u8 ds)) 50 = AObj.cells ((AV.bool mx) :: (ints .u8 ds)) 50,
        AObj.cells [AV.ptr 2 0, AV.vec 3 ([UInt8.ofNat (Int.toNat (48 + (ds.getD k 0)))].length)] 75 = AObj.cells [AV.ptr 2 0, AV.vec 3 ([UInt8.ofNat (Int.toNat (48 + ds.getD k 0))].length)] 75,
        AObj.vec (u8s [UInt8.ofNat (Int.toNat (48 + (ds.getD k 0)))]) 5 1 = AObj.vec (u8s [UInt8.ofNat (Int.toNat (48 + ds.getD k 0))]) 5 1]) (exec_sound _ [.reg [(2, {val := some (AV.bool true)})], .reg [(1, {val := some (AV.bool false)})], .reg [(2, {val := some (AV.ptr 1 (k + 1))}), (3, {val := some (AV.int .u8 (ds.getD k 0))}), (4, {val := some (AV.int .u8 (48 + (ds.getD k 0)))}), (5, {call := some ⟨[2, 3], [AV.ptr 0 0, AV.int .u8 (48 + (ds.getD k 0))], [AObj.cells [AV.nilptr, AV.nilslice] 75], AV.niliface, [AObj.cells [AV.ptr 0 0, AV.vec 1 ([UInt8.ofNat (Int.toNat (48 + (ds.getD k 0)))].length)] 75, AObj.vec (u8s [UInt8.ofNat (Int.toNat (48 + (ds.getD k 0)))]) 5 1]⟩, obj := some [AObj.cells [AV.ptr 2 0, AV.vec 3 ([UInt8.ofNat (Int.toNat (48 + (ds.getD k 0)))].length)] 75, AObj.vec (u8s [UInt8.ofNat (Int.toNat (48 + (ds.getD k 0)))]) 5 1]})], .reg [(1, {val := some (AV.int .i64 ((k + 1 : Nat) : Int))})]] _
    ⟨[AV.bool (decide (((k : Nat) : Int) < ((b : Nat) : Int))) = AV.bool true,
        AV.bool (((k : Nat) : Int) == 48) = AV.bool false,
        0 ≤ ((k : Nat) : Int),
        ((k : Nat) : Int) < ((88 : Nat) : Int),
        AV.ptr 1 (1 + Int.toNat ((k : Nat) : Int) * 1) = AV.ptr 1 (k + 1),
        0 ≤ (k + 1),
        ((AV.bool mx) :: (ints .u8 ds) : List AV)[(k + 1) - 0]? = some (AV.int .u8 (ds.getD k 0)),
        AV.int .u8 (IntKind.u8.wrap (48 + (ds.getD k 0))) = AV.int .u8 (48 + (ds.getD k 0)),
        [AV.ptr 2 0, AV.int .u8 (48 + (ds.getD k 0))] = renL [2, 3] [AV.ptr 0 0, AV.int .u8 (48 + (ds.getD k 0))],
        Meets Try.prog 61 [AV.ptr 0 0, AV.int .u8 (48 + (ds.getD k 0))] [AObj.cells [AV.nilptr, AV.nilslice] 75] AV.niliface [AObj.cells [AV.ptr 0 0, AV.vec 1 ([UInt8.ofNat (Int.toNat (48 + (ds.getD k 0)))].length)] 75, AObj.vec (u8s [UInt8.ofNat (Int.toNat (48 + (ds.getD k 0)))]) 5 1],
        Fits (AObj.cells [AV.nilptr, AV.nilslice] 75) (AObj.ren [2, 3] (AObj.cells [AV.nilptr, AV.nilslice] 75)),
        updOf [2, 3] [AObj.cells [AV.nilptr, AV.nilslice] 75] [AObj.cells [AV.nilptr, AV.nilslice] 75] [AObj.cells [AV.ptr 0 0, AV.vec 1 ([UInt8.ofNat (Int.toNat (48 + (ds.getD k 0)))].length)] 75, AObj.vec (u8s [UInt8.ofNat (Int.toNat (48 + (ds.getD k 0)))]) 5 1] ++ List.map (fun x => x.ren [2, 3]) (List.drop 1 [AObj.cells [AV.ptr 0 0, AV.vec 1 ([UInt8.ofNat (Int.toNat (48 + (ds.getD k 0)))].length)] 75, AObj.vec (u8s [UInt8.ofNat (Int.toNat (48 + (ds.getD k 0)))]) 5 1]) = [AObj.cells [AV.ptr 2 0, AV.vec 3 ([UInt8.ofNat (Int.toNat (48 + (ds.getD k 0)))].length)] 75, AObj.vec (u8s [UInt8.ofNat (Int.toNat (48 + (ds.getD k 0)))]) 5 1],
        AV.int .i64 (IntKind.i64.wrap (((k : Nat) : Int) + 1)) = AV.int .i64 ((k + 1 : Nat) : Int)],
      .normal, ⟨[none, none, none, none, some (AV.ptr 1 0), none, some (AV.int .i64 ((b : Nat) : Int)), some (AV.ptr 2 0), some (AV.int .i64 ((k + 1 : Nat) : Int)), none, none, none, none, none, none, none, none, none, none, none, none, none, none, none, none, none, none, none, none, none, none, none, none, none, none, none, none, none, none, none, none, some (AV.int .i64 ((k : Nat) : Int)), some (AV.int .i64 ((b : Nat) : Int)), some (AV.bool true), some (AV.int .i64 ((k : Nat) : Int)), some (AV.int .i64 ((k + 1 : Nat) : Int)), some (AV.int .i64 ((k : Nat) : Int)), some (AV.bool false), none, some (AV.int .i64 ((k : Nat) : Int)), some (AV.ptr 1 1), some (AV.ptr 1 (k + 1)), some (AV.int .u8 (ds.getD k 0)), some (AV.int .u8 (48 + (ds.getD k 0))), some (AV.niliface), none], [some (AObj.cells [AV.int .i64 am, AV.int .i64 ae] 23), some (AObj.cells ((AV.bool mx) :: (ints .u8 ds)) 50), some (AObj.cells [AV.ptr 2 0, AV.vec 3 ([UInt8.ofNat (Int.toNat (48 + (ds.getD k 0)))].length)] 75), some (AObj.vec (u8s [UInt8.ofNat (Int.toNat (48 + (ds.getD k 0)))]) 5 1), none, none, none]⟩, []⟩ (by kernel_rfl)
    ⟨bT (by omega), eqF h48, by omega, by omega, ptrE (by omega), Nat.zero_le _, ints_get' (by omega), w_u8 (by omega), rfl, writeByte_new (48 + (ds.getD k 0)) (by omega), Fits.refl _, by simp [updOf, AObj.owned, AObj.ren, renL, AV.ren, renL_ints, renL_u8s, renL_append], wI (by omega), trivial⟩) (by kernel_rfl)
    ⟨rfl, rfl, rfl, rfl, rfl, rfl, rfl, rfl, trivial⟩

theorem text_r2a (am ae : Int) (mx : Bool) (ds : List Int) (b k : Nat) (t : List UInt8) (ht : t.length < 1000) (hl : ds.length = 88) (hb : b ≤ 88) (h1 : k < b) (hd : 0 ≤ ds.getD k 0 ∧ ds.getD k 0 ≤ 9) (h48 : ¬ ((k : Nat) : Int) = 48) : Tri Try.prog (loopN (bodyOf Try.f29) 2) (text_used am ae mx ds b k t) .normal (text_used am ae mx ds b (k + 1) (t ++ [UInt8.ofNat (Int.toNat (48 + ds.getD k 0))])) := by
  exact Tri.ren [0, 1, 2, 4] (ob := [AV.ptr 1 0 = AV.ren [0, 1, 2, 4] (AV.ptr 1 0),
        AV.int .i64 ((b : Nat) : Int) = AV.ren [0, 1, 2, 4] (AV.int .i64 ((b : Nat) : Int)),
        AV.ptr 2 0 = AV.ren [0, 1, 2, 4] (AV.ptr 2 0),
        AV.int .i64 ((k + 1 : Nat) : Int) = AV.ren [0, 1, 2, 4] (AV.int .i64 ((k + 1 : Nat) : Int)),
        AObj.cells [AV.int .i64 am, AV.int .i64 ae] 23 = AObj.ren [0, 1, 2, 4] (AObj.cells [AV.int .i64 am, AV.int .i64 ae] 23),
        AObj.cells ((AV.bool mx) :: (ints .u8 ds)) 50 = AObj.ren [0, 1, 2, 4] (AObj.cells ((AV.bool mx) :: (ints .u8 ds)) 50),
        AObj.cells [AV.ptr 2 0, AV.vec 4 ((t ++ [UInt8.ofNat (Int.toNat (48 + (ds.getD k 0)))]).length)] 75 = AObj.ren [0, 1, 2, 4] (AObj.cells [AV.ptr 2 0, AV.vec 3 ((t ++ [UInt8.ofNat (Int.toNat (48 + ds.getD k 0))]).length)] 75),
        AObj.vec (u8s (t ++ [UInt8.ofNat (Int.toNat (48 + (ds.getD k 0)))])) 5 1 = AObj.ren [0, 1, 2, 4] (AObj.vec (u8s (t ++ [UInt8.ofNat (Int.toNat (48 + ds.getD k 0))])) 5 1)]) (exec_sound _ [.reg [(2, {val := some (AV.bool true)})], .reg [(1, {val := some (AV.bool false)})], .reg [(2, {val := some (AV.ptr 1 (k + 1))}), (3, {val := some (AV.int .u8 (ds.getD k 0))}), (4, {val := some (AV.int .u8 (48 + (ds.getD k 0)))}), (5, {call := some ⟨[2, 3, 4], [AV.ptr 0 0, AV.int .u8 (48 + (ds.getD k 0))], [AObj.cells [AV.ptr 0 0, AV.vec 1 t.length] 75, AObj.vec (u8s t) 5 1], AV.niliface, [AObj.cells [AV.ptr 0 0, AV.vec 2 ((t ++ [UInt8.ofNat (Int.toNat (48 + (ds.getD k 0)))]).length)] 75, AObj.dead, AObj.vec (u8s (t ++ [UInt8.ofNat (Int.toNat (48 + (ds.getD k 0)))])) 5 1]⟩, obj := some [AObj.cells [AV.ptr 2 0, AV.vec 4 ((t ++ [UInt8.ofNat (Int.toNat (48 + (ds.getD k 0)))]).length)] 75, AObj.dead, AObj.vec (u8s (t ++ [UInt8.ofNat (Int.toNat (48 + (ds.getD k 0)))])) 5 1]})], .reg [(1, {val := some (AV.int .i64 ((k + 1 : Nat) : Int))})]] _
    ⟨[AV.bool (decide (((k : Nat) : Int) < ((b : Nat) : Int))) = AV.bool true,
        AV.bool (((k : Nat) : Int) == 48) = AV.bool false,
        0 ≤ ((k : Nat) : Int),
        ((k : Nat) : Int) < ((88 : Nat) : Int),
        AV.ptr 1 (1 + Int.toNat ((k : Nat) : Int) * 1) = AV.ptr 1 (k + 1),
        0 ≤ (k + 1),
        ((AV.bool mx) :: (ints .u8 ds) : List AV)[(k + 1) - 0]? = some (AV.int .u8 (ds.getD k 0)),
        AV.int .u8 (IntKind.u8.wrap (48 + (ds.getD k 0))) = AV.int .u8 (48 + (ds.getD k 0)),
        [AV.ptr 2 0, AV.int .u8 (48 + (ds.getD k 0))] = renL [2, 3, 4] [AV.ptr 0 0, AV.int .u8 (48 + (ds.getD k 0))],
        Meets Try.prog 61 [AV.ptr 0 0, AV.int .u8 (48 + (ds.getD k 0))] [AObj.cells [AV.ptr 0 0, AV.vec 1 t.length] 75, AObj.vec (u8s t) 5 1] AV.niliface [AObj.cells [AV.ptr 0 0, AV.vec 2 ((t ++ [UInt8.ofNat (Int.toNat (48 + (ds.getD k 0)))]).length)] 75, AObj.dead, AObj.vec (u8s (t ++ [UInt8.ofNat (Int.toNat (48 + (ds.getD k 0)))])) 5 1],
        Fits (AObj.cells [AV.ptr 2 0, AV.vec 3 t.length] 75) (AObj.ren [2, 3, 4] (AObj.cells [AV.ptr 0 0, AV.vec 1 t.length] 75)),
        Fits (AObj.vec (u8s t) 5 1) (AObj.ren [2, 3, 4] (AObj.vec (u8s t) 5 1)),
        updOf [2, 3, 4] [AObj.cells [AV.ptr 2 0, AV.vec 3 t.length] 75, AObj.vec (u8s t) 5 1] [AObj.cells [AV.ptr 0 0, AV.vec 1 t.length] 75, AObj.vec (u8s t) 5 1] [AObj.cells [AV.ptr 0 0, AV.vec 2 ((t ++ [UInt8.ofNat (Int.toNat (48 + (ds.getD k 0)))]).length)] 75, AObj.dead, AObj.vec (u8s (t ++ [UInt8.ofNat (Int.toNat (48 + (ds.getD k 0)))])) 5 1] ++ List.map (fun x => x.ren [2, 3, 4]) (List.drop 2 [AObj.cells [AV.ptr 0 0, AV.vec 2 ((t ++ [UInt8.ofNat (Int.toNat (48 + (ds.getD k 0)))]).length)] 75, AObj.dead, AObj.vec (u8s (t ++ [UInt8.ofNat (Int.toNat (48 + (ds.getD k 0)))])) 5 1]) = [AObj.cells [AV.ptr 2 0, AV.vec 4 ((t ++ [UInt8.ofNat (Int.toNat (48 + (ds.getD k 0)))]).length)] 75, AObj.dead, AObj.vec (u8s (t ++ [UInt8.ofNat (Int.toNat (48 + (ds.getD k 0)))])) 5 1],
        AV.int .i64 (IntKind.i64.wrap (((k : Nat) : Int) + 1)) = AV.int .i64 ((k + 1 : Nat) : Int)],
      .normal, ⟨[none, none, none, none, some (AV.ptr 1 0), none, some (AV.int .i64 ((b : Nat) : Int)), some (AV.ptr 2 0), some (AV.int .i64 ((k + 1 : Nat) : Int)), none, none, none, none, none, none, none, none, none, none, none, none, none, none, none, none, none, none, none, none, none, none, none, none, none, none, none, none, none, none, none, none, some (AV.int .i64 ((k : Nat) : Int)), some (AV.int .i64 ((b : Nat) : Int)), some (AV.bool true), some (AV.int .i64 ((k : Nat) : Int)), some (AV.int .i64 ((k + 1 : Nat) : Int)), some (AV.int .i64 ((k : Nat) : Int)), some (AV.bool false), none, some (AV.int .i64 ((k : Nat) : Int)), some (AV.ptr 1 1), some (AV.ptr 1 (k + 1)), some (AV.int .u8 (ds.getD k 0)), some (AV.int .u8 (48 + (ds.getD k 0))), some (AV.niliface), none], [some (AObj.cells [AV.int .i64 am, AV.int .i64 ae] 23), some (AObj.cells ((AV.bool mx) :: (ints .u8 ds)) 50), some (AObj.cells [AV.ptr 2 0, AV.vec 4 ((t ++ [UInt8.ofNat (Int.toNat (48 + (ds.getD k 0)))]).length)] 75), some (AObj.dead), some (AObj.vec (u8s (t ++ [UInt8.ofNat (Int.toNat (48 + (ds.getD k 0)))])) 5 1), none, none]⟩, []⟩ (by kernel_rfl)
    ⟨bT (by omega), eqF h48, by omega, by omega, ptrE (by omega), Nat.zero_le _, ints_get' (by omega), w_u8 (by omega), rfl, writeByte_more t (48 + (ds.getD k 0)) (by omega) (by first | omega | (simp only [List.length_append, List.length_cons, List.length_nil] <;> omega)), Fits.refl _, Fits.of_eq (by simp only [AObj.ren, renL, AV.ren, renL_ints, renL_u8s, renL_append]), by simp [updOf, AObj.owned, AObj.ren, renL, AV.ren, renL_ints, renL_u8s, renL_append], wI (by omega), trivial⟩) (by kernel_rfl)
    ⟨rfl, rfl, rfl, rfl, rfl, by simp only [AObj.ren, renL, AV.ren, renL_ints, renL_u8s, renL_append], rfl, by simp only [AObj.ren, renL, AV.ren, renL_ints, renL_u8s, renL_append], trivial⟩

theorem text_r2b (am ae : Int) (mx : Bool) (ds : List Int) (b k : Nat) (t : List UInt8) (ht : t.length < 1000) (hl : ds.length = 88) (hb : b ≤ 88) (h1 : k < b) (hd : 0 ≤ ds.getD k 0 ∧ ds.getD k 0 ≤ 9) (h48 : ((k : Nat) : Int) = 48) : Tri Try.prog (loopN (bodyOf Try.f29) 2) (text_used am ae mx ds b k t) .normal (text_used am ae mx ds b (k + 1) ((t ++ [UInt8.ofNat (Int.toNat 46)]) ++ [UInt8.ofNat (Int.toNat (48 + ds.getD k 0))])) := by
  exact Tri.ren [0, 1, 2, 5] (ob := [AV.ptr 1 0 = AV.ren [0, 1, 2, 5] (AV.ptr 1 0),
        AV.int .i64 ((b : Nat) : Int) = AV.ren [0, 1, 2, 5] (AV.int .i64 ((b : Nat) : Int)),
        AV.ptr 2 0 = AV.ren [0, 1, 2, 5] (AV.ptr 2 0),
        AV.int .i64 ((k + 1 : Nat) : Int) = AV.ren [0, 1, 2, 5] (AV.int .i64 ((k + 1 : Nat) : Int)),
        AObj.cells [AV.int .i64 am, AV.int .i64 ae] 23 = AObj.ren [0, 1, 2, 5] (AObj.cells [AV.int .i64 am, AV.int .i64 ae] 23),
        AObj.cells ((AV.bool mx) :: (ints .u8 ds)) 50 = AObj.ren [0, 1, 2, 5] (AObj.cells ((AV.bool mx) :: (ints .u8 ds)) 50),
        AObj.cells [AV.ptr 2 0, AV.vec 5 (((t ++ [UInt8.ofNat (Int.toNat 46)]) ++ [UInt8.ofNat (Int.toNat (48 + (ds.getD k 0)))]).length)] 75 = AObj.ren [0, 1, 2, 5] (AObj.cells [AV.ptr 2 0, AV.vec 3 (((t ++ [UInt8.ofNat (Int.toNat 46)]) ++ [UInt8.ofNat (Int.toNat (48 + ds.getD k 0))]).length)] 75),
        AObj.vec (u8s ((t ++ [UInt8.ofNat (Int.toNat 46)]) ++ [UInt8.ofNat (Int.toNat (48 + (ds.getD k 0)))])) 5 1 = AObj.ren [0, 1, 2, 5] (AObj.vec (u8s ((t ++ [UInt8.ofNat (Int.toNat 46)]) ++ [UInt8.ofNat (Int.toNat (48 + ds.getD k 0))])) 5 1)]) (exec_sound _ [.reg [(2, {val := some (AV.bool true)})], .reg [(1, {val := some (AV.bool true)})], .reg [(0, {call := some ⟨[2, 3, 4], [AV.ptr 0 0, AV.int .u8 46], [AObj.cells [AV.ptr 0 0, AV.vec 1 t.length] 75, AObj.vec (u8s t) 5 1], AV.niliface, [AObj.cells [AV.ptr 0 0, AV.vec 2 ((t ++ [UInt8.ofNat (Int.toNat 46)]).length)] 75, AObj.dead, AObj.vec (u8s (t ++ [UInt8.ofNat (Int.toNat 46)])) 5 1]⟩, obj := some [AObj.cells [AV.ptr 2 0, AV.vec 4 ((t ++ [UInt8.ofNat (Int.toNat 46)]).length)] 75, AObj.dead, AObj.vec (u8s (t ++ [UInt8.ofNat (Int.toNat 46)])) 5 1]})], .reg [(2, {val := some (AV.ptr 1 (k + 1))}), (3, {val := some (AV.int .u8 (ds.getD k 0))}), (4, {val := some (AV.int .u8 (48 + (ds.getD k 0)))}), (5, {call := some ⟨[2, 4, 5], [AV.ptr 0 0, AV.int .u8 (48 + (ds.getD k 0))], [AObj.cells [AV.ptr 0 0, AV.vec 1 ((t ++ [UInt8.ofNat (Int.toNat 46)]).length)] 75, AObj.vec (u8s (t ++ [UInt8.ofNat (Int.toNat 46)])) 5 1], AV.niliface, [AObj.cells [AV.ptr 0 0, AV.vec 2 (((t ++ [UInt8.ofNat (Int.toNat 46)]) ++ [UInt8.ofNat (Int.toNat (48 + (ds.getD k 0)))]).length)] 75, AObj.dead, AObj.vec (u8s ((t ++ [UInt8.ofNat (Int.toNat 46)]) ++ [UInt8.ofNat (Int.toNat (48 + (ds.getD k 0)))])) 5 1]⟩, obj := some [AObj.cells [AV.ptr 2 0, AV.vec 5 (((t ++ [UInt8.ofNat (Int.toNat 46)]) ++ [UInt8.ofNat (Int.toNat (48 + (ds.getD k 0)))]).length)] 75, AObj.dead, AObj.vec (u8s ((t ++ [UInt8.ofNat (Int.toNat 46)]) ++ [UInt8.ofNat (Int.toNat (48 + (ds.getD k 0)))])) 5 1]})], .reg [(1, {val := some (AV.int .i64 ((k + 1 : Nat) : Int))})]] _
    ⟨[AV.bool (decide (((k : Nat) : Int) < ((b : Nat) : Int))) = AV.bool true,
        AV.bool (((k : Nat) : Int) == 48) = AV.bool true,
        [AV.ptr 2 0, AV.int .u8 46] = renL [2, 3, 4] [AV.ptr 0 0, AV.int .u8 46],
        Meets Try.prog 61 [AV.ptr 0 0, AV.int .u8 46] [AObj.cells [AV.ptr 0 0, AV.vec 1 t.length] 75, AObj.vec (u8s t) 5 1] AV.niliface [AObj.cells [AV.ptr 0 0, AV.vec 2 ((t ++ [UInt8.ofNat (Int.toNat 46)]).length)] 75, AObj.dead, AObj.vec (u8s (t ++ [UInt8.ofNat (Int.toNat 46)])) 5 1],
        Fits (AObj.cells [AV.ptr 2 0, AV.vec 3 t.length] 75) (AObj.ren [2, 3, 4] (AObj.cells [AV.ptr 0 0, AV.vec 1 t.length] 75)),
        Fits (AObj.vec (u8s t) 5 1) (AObj.ren [2, 3, 4] (AObj.vec (u8s t) 5 1)),
        updOf [2, 3, 4] [AObj.cells [AV.ptr 2 0, AV.vec 3 t.length] 75, AObj.vec (u8s t) 5 1] [AObj.cells [AV.ptr 0 0, AV.vec 1 t.length] 75, AObj.vec (u8s t) 5 1] [AObj.cells [AV.ptr 0 0, AV.vec 2 ((t ++ [UInt8.ofNat (Int.toNat 46)]).length)] 75, AObj.dead, AObj.vec (u8s (t ++ [UInt8.ofNat (Int.toNat 46)])) 5 1] ++ List.map (fun x => x.ren [2, 3, 4]) (List.drop 2 [AObj.cells [AV.ptr 0 0, AV.vec 2 ((t ++ [UInt8.ofNat (Int.toNat 46)]).length)] 75, AObj.dead, AObj.vec (u8s (t ++ [UInt8.ofNat (Int.toNat 46)])) 5 1]) = [AObj.cells [AV.ptr 2 0, AV.vec 4 ((t ++ [UInt8.ofNat (Int.toNat 46)]).length)] 75, AObj.dead, AObj.vec (u8s (t ++ [UInt8.ofNat (Int.toNat 46)])) 5 1],
        0 ≤ ((k : Nat) : Int),
        ((k : Nat) : Int) < ((88 : Nat) : Int),
        AV.ptr 1 (1 + Int.toNat ((k : Nat) : Int) * 1) = AV.ptr 1 (k + 1),
        0 ≤ (k + 1),
        ((AV.bool mx) :: (ints .u8 ds) : List AV)[(k + 1) - 0]? = some (AV.int .u8 (ds.getD k 0)),
        AV.int .u8 (IntKind.u8.wrap (48 + (ds.getD k 0))) = AV.int .u8 (48 + (ds.getD k 0)),
        [AV.ptr 2 0, AV.int .u8 (48 + (ds.getD k 0))] = renL [2, 4, 5] [AV.ptr 0 0, AV.int .u8 (48 + (ds.getD k 0))],
        Meets Try.prog 61 [AV.ptr 0 0, AV.int .u8 (48 + (ds.getD k 0))] [AObj.cells [AV.ptr 0 0, AV.vec 1 ((t ++ [UInt8.ofNat (Int.toNat 46)]).length)] 75, AObj.vec (u8s (t ++ [UInt8.ofNat (Int.toNat 46)])) 5 1] AV.niliface [AObj.cells [AV.ptr 0 0, AV.vec 2 (((t ++ [UInt8.ofNat (Int.toNat 46)]) ++ [UInt8.ofNat (Int.toNat (48 + (ds.getD k 0)))]).length)] 75, AObj.dead, AObj.vec (u8s ((t ++ [UInt8.ofNat (Int.toNat 46)]) ++ [UInt8.ofNat (Int.toNat (48 + (ds.getD k 0)))])) 5 1],
        Fits (AObj.cells [AV.ptr 2 0, AV.vec 4 ((t ++ [UInt8.ofNat (Int.toNat 46)]).length)] 75) (AObj.ren [2, 4, 5] (AObj.cells [AV.ptr 0 0, AV.vec 1 ((t ++ [UInt8.ofNat (Int.toNat 46)]).length)] 75)),
        Fits (AObj.vec (u8s (t ++ [UInt8.ofNat (Int.toNat 46)])) 5 1) (AObj.ren [2, 4, 5] (AObj.vec (u8s (t ++ [UInt8.ofNat (Int.toNat 46)])) 5 1)),
        updOf [2, 4, 5] [AObj.cells [AV.ptr 2 0, AV.vec 4 ((t ++ [UInt8.ofNat (Int.toNat 46)]).length)] 75, AObj.vec (u8s (t ++ [UInt8.ofNat (Int.toNat 46)])) 5 1] [AObj.cells [AV.ptr 0 0, AV.vec 1 ((t ++ [UInt8.ofNat (Int.toNat 46)]).length)] 75, AObj.vec (u8s (t ++ [UInt8.ofNat (Int.toNat 46)])) 5 1] [AObj.cells [AV.ptr 0 0, AV.vec 2 (((t ++ [UInt8.ofNat (Int.toNat 46)]) ++ [UInt8.ofNat (Int.toNat (48 + (ds.getD k 0)))]).length)] 75, AObj.dead, AObj.vec (u8s ((t ++ [UInt8.ofNat (Int.toNat 46)]) ++ [UInt8.ofNat (Int.toNat (48 + (ds.getD k 0)))])) 5 1] ++ List.map (fun x => x.ren [2, 4, 5]) (List.drop 2 [AObj.cells [AV.ptr 0 0, AV.vec 2 (((t ++ [UInt8.ofNat (Int.toNat 46)]) ++ [UInt8.ofNat (Int.toNat (48 + (ds.getD k 0)))]).length)] 75, AObj.dead, AObj.vec (u8s ((t ++ [UInt8.ofNat (Int.toNat 46)]) ++ [UInt8.ofNat (Int.toNat (48 + (ds.getD k 0)))])) 5 1]) = [AObj.cells [AV.ptr 2 0, AV.vec 5 (((t ++ [UInt8.ofNat (Int.toNat 46)]) ++ [UInt8.ofNat (Int.toNat (48 + (ds.getD k 0)))]).length)] 75, AObj.dead, AObj.vec (u8s ((t ++ [UInt8.ofNat (Int.toNat 46)]) ++ [UInt8.ofNat (Int.toNat (48 + (ds.getD k 0)))])) 5 1],
        AV.int .i64 (IntKind.i64.wrap (((k : Nat) : Int) + 1)) = AV.int .i64 ((k + 1 : Nat) : Int)],
      .normal, ⟨[none, none, none, none, some (AV.ptr 1 0), none, some (AV.int .i64 ((b : Nat) : Int)), some (AV.ptr 2 0), some (AV.int .i64 ((k + 1 : Nat) : Int)), none, none, none, none, none, none, none, none, none, none, none, none, none, none, none, none, none, none, none, none, none, none, none, none, none, none, none, none, none, none, none, none, some (AV.int .i64 ((k : Nat) : Int)), some (AV.int .i64 ((b : Nat) : Int)), some (AV.bool true), some (AV.int .i64 ((k : Nat) : Int)), some (AV.int .i64 ((k + 1 : Nat) : Int)), some (AV.int .i64 ((k : Nat) : Int)), some (AV.bool true), some (AV.niliface), some (AV.int .i64 ((k : Nat) : Int)), some (AV.ptr 1 1), some (AV.ptr 1 (k + 1)), some (AV.int .u8 (ds.getD k 0)), some (AV.int .u8 (48 + (ds.getD k 0))), some (AV.niliface), none], [some (AObj.cells [AV.int .i64 am, AV.int .i64 ae] 23), some (AObj.cells ((AV.bool mx) :: (ints .u8 ds)) 50), some (AObj.cells [AV.ptr 2 0, AV.vec 5 (((t ++ [UInt8.ofNat (Int.toNat 46)]) ++ [UInt8.ofNat (Int.toNat (48 + (ds.getD k 0)))]).length)] 75), some (AObj.dead), some (AObj.dead), some (AObj.vec (u8s ((t ++ [UInt8.ofNat (Int.toNat 46)]) ++ [UInt8.ofNat (Int.toNat (48 + (ds.getD k 0)))])) 5 1), none]⟩, []⟩ (by kernel_rfl)
    ⟨bT (by omega), eqT h48, rfl, writeByte_more t 46 (by omega) (by first | omega | (simp only [List.length_append, List.length_cons, List.length_nil] <;> omega)), Fits.refl _, Fits.of_eq (by simp only [AObj.ren, renL, AV.ren, renL_ints, renL_u8s, renL_append]), by simp [updOf, AObj.owned, AObj.ren, renL, AV.ren, renL_ints, renL_u8s, renL_append], by omega, by omega, ptrE (by omega), Nat.zero_le _, ints_get' (by omega), w_u8 (by omega), rfl, writeByte_more (t ++ [UInt8.ofNat (Int.toNat 46)]) (48 + (ds.getD k 0)) (by omega) (by first | omega | (simp only [List.length_append, List.length_cons, List.length_nil] <;> omega)), Fits.refl _, Fits.of_eq (by simp only [AObj.ren, renL, AV.ren, renL_ints, renL_u8s, renL_append]), by simp [updOf, AObj.owned, AObj.ren, renL, AV.ren, renL_ints, renL_u8s, renL_append], wI (by omega), trivial⟩) (by kernel_rfl)
    ⟨rfl, rfl, rfl, rfl, rfl, by simp only [AObj.ren, renL, AV.ren, renL_ints, renL_u8s, renL_append], rfl, by simp only [AObj.ren, renL, AV.ren, renL_ints, renL_u8s, renL_append], trivial⟩

theorem text_x2 (am ae : Int) (mx : Bool) (ds : List Int) (b : Nat) (t : List UInt8) : Tri Try.prog (loopN (bodyOf Try.f29) 2) (text_used am ae mx ds b b t) (.exit 4) (text_used am ae mx ds b b t) := by
  exact Tri.weak (ob := [AV.ptr 1 0 = AV.ptr 1 0,
        AV.int .i64 ((b : Nat) : Int) = AV.int .i64 ((b : Nat) : Int),
        AV.ptr 2 0 = AV.ptr 2 0,
        AV.int .i64 ((b : Nat) : Int) = AV.int .i64 ((b : Nat) : Int),
        AObj.cells [AV.int .i64 am, AV.int .i64 ae] 23 = AObj.cells [AV.int .i64 am, AV.int .i64 ae] 23,
        AObj.cells ((AV.bool mx) :: (ints .u8 ds)) 50 = AObj.cells ((AV.bool mx) :: (ints .u8 ds)) 50,
        AObj.cells [AV.ptr 2 0, AV.vec 3 t.length] 75 = AObj.cells [AV.ptr 2 0, AV.vec 3 t.length] 75,
        AObj.vec (u8s t) 5 1 = AObj.vec (u8s t) 5 1]) (exec_sound _ [.reg [(2, {val := some (AV.bool false)})]] _
    ⟨[AV.bool (decide (((b : Nat) : Int) < ((b : Nat) : Int))) = AV.bool false],
      .exit 4, ⟨[none, none, none, none, some (AV.ptr 1 0), none, some (AV.int .i64 ((b : Nat) : Int)), some (AV.ptr 2 0), some (AV.int .i64 ((b : Nat) : Int)), none, none, none, none, none, none, none, none, none, none, none, none, none, none, none, none, none, none, none, none, none, none, none, none, none, none, none, none, none, none, none, none, some (AV.int .i64 ((b : Nat) : Int)), some (AV.int .i64 ((b : Nat) : Int)), some (AV.bool false), none, none, none, none, none, none, none, none, none, none, none, none], [some (AObj.cells [AV.int .i64 am, AV.int .i64 ae] 23), some (AObj.cells ((AV.bool mx) :: (ints .u8 ds)) 50), some (AObj.cells [AV.ptr 2 0, AV.vec 3 t.length] 75), some (AObj.vec (u8s t) 5 1), none, none, none]⟩, []⟩ (by kernel_rfl)
    ⟨bF (by omega), trivial⟩) (by kernel_rfl)
    ⟨rfl, rfl, rfl, rfl, rfl, rfl, rfl, rfl, trivial⟩

theorem txt_step (ds : List Int) (a n : Nat) (pre : List UInt8) : pre ++ txt ds a (n + 1) = (pre ++ txt ds a n) ++ ((if a + n = 48 then [46] else []) ++ [chB (ds.getD (a + n) 0)]) := by
  rw [txt, List.append_assoc]
theorem txt_ne (ds : List Int) (a n : Nat) (h : 0 < n) : txt ds a n ≠ [] := by
  obtain ⟨m, rfl⟩ : ∃ m, n = m + 1 := ⟨n - 1, by omega⟩
  rw [txt]; simp
theorem text_round (am ae : Int) (mx : Bool) (ds : List Int) (a b n : Nat) (pre : List UInt8) (hpre : pre.length ≤ 1) (hl : ds.length = 88) (hd : Dig ds) (hb : b ≤ 88) (h1 : a + n < b) :
    Tri Try.prog (loopN (bodyOf Try.f29) 2) (text_used am ae mx ds b (a + n) (pre ++ txt ds a n)) .normal (text_used am ae mx ds b (a + (n + 1)) (pre ++ txt ds a (n + 1))) := by
  have ht : (pre ++ txt ds a n).length < 1000 := by
    have := txt_len ds a n
    rw [List.length_append]; omega
  rw [txt_step]
  by_cases h48 : a + n = 48
  · have h := text_r2b am ae mx ds b (a + n) (pre ++ txt ds a n) ht hl hb h1 (hd.getD _) (by omega)
    rw [if_pos h48, ← List.append_assoc]
    exact h
  · have h := text_r2a am ae mx ds b (a + n) (pre ++ txt ds a n) ht hl hb h1 (hd.getD _) (by omega)
    rw [if_neg h48, List.nil_append]
    exact h
theorem text_l2u (am ae : Int) (mx : Bool) (ds : List Int) (a b : Nat) (pre : List UInt8) (hpre : pre.length ≤ 1) (hl : ds.length = 88) (hd : Dig ds) (hb : b ≤ 88) (hab : a ≤ b) :
    Tri Try.prog (.loop (loopN (bodyOf Try.f29) 2)) (text_used am ae mx ds b a pre) (.exit 4) (text_used am ae mx ds b b (pre ++ txt ds a (b - a))) := by
  have h := tri_up (P := Try.prog) (body := loopN (bodyOf Try.f29) 2) (ex := .exit 4) (out := text_used am ae mx ds b b (pre ++ txt ds a (b - a))) (fun n => text_used am ae mx ds b (a + n) (pre ++ txt ds a n)) (ne_normal_exit 4) (b - a)
    (fun n hn => text_round am ae mx ds a b n pre hpre hl hd hb (by omega)) (by
      have := text_x2 am ae mx ds b (pre ++ txt ds a (b - a))
      simpa only [show a + (b - a) = b by omega] using this) 0 (Nat.zero_le _)
  simpa only [txt, List.append_nil, Nat.add_zero] using h
theorem text_l2n (am ae : Int) (mx : Bool) (ds : List Int) (a b : Nat) (hl : ds.length = 88) (hd : Dig ds) (hb : b ≤ 88) (ha : a ≤ 47) (hab : a < b) :
    Tri Try.prog (.loop (loopN (bodyOf Try.f29) 2)) (text_new am ae mx ds b a) (.exit 4) (text_used am ae mx ds b b (txt ds a (b - a))) :=
  tri_loop (ι := {n : Nat // n ≤ b - a}) (fun q => if q.1 = 0 then text_new am ae mx ds b a else text_used am ae mx ds b (a + q.1) (txt ds a q.1)) (fun q => b - a - q.1) (ne_normal_exit 4) (by
    rintro ⟨n, hn⟩
    by_cases h0 : n = 0
    · subst h0
      refine .inl ⟨⟨1, by omega⟩, by show b - a - 1 < b - a - 0; omega, ?_⟩
      have h := text_r2n am ae mx ds b a hl hb hab (hd.getD _) (by omega)
      have e : txt ds a 1 = [UInt8.ofNat (Int.toNat (48 + ds.getD a 0))] := by
        simp only [txt, Nat.add_zero, if_neg (by omega : ¬ a = 48), List.nil_append]; rfl
      simp only [if_true, show ¬ (1 : Nat) = 0 by decide, if_false, e]
      exact h
    · by_cases h1 : n = b - a
      · refine .inr ?_
        have := text_x2 am ae mx ds b (txt ds a (b - a))
        subst h1
        simp only [if_neg h0]
        simpa only [show a + (b - a) = b by omega] using this
      · refine .inl ⟨⟨n + 1, by omega⟩, by show b - a - (n + 1) < b - a - n; omega, ?_⟩
        have h := text_round am ae mx ds a b n [] (by simp) hl hd hb (by omega)
        simp only [if_neg h0, show ¬ n + 1 = 0 by omega, if_false]
        simpa only [List.nil_append] using h) ⟨0, Nat.zero_le _⟩

theorem text_ok (am ae : Int) (mx : Bool) (ds : List Int) (hr : rightB am ae = true) (hl : ds.length = 88) (hd : Dig ds) (hlay : Meets Try.prog 33 [AV.agg [AV.int .i64 am, AV.int .i64 ae]] [] (AV.agg (AV.bool mx :: ints .u8 ds)) []) : Meets Try.prog 29 [AV.agg [AV.int .i64 am, AV.int .i64 ae]] [] (AV.tuple [AV.str (textB mx ds), AV.int .i64 0]) [] := by
  have hA := fstGo_le ds 47 0 (by decide)
  have hB := lstGo_ge ds 40 88 (by decide)
  have hL := txt_len ds (fstGo ds 47 0) ((lstGo ds 40 88) - (fstGo ds 47 0))
  by_cases c1 : mx = true
  · exact meets_of_exec (fn := Try.f29) 7 [.reg [(0, {nm := [0]})], .reg [(0, {val := some (AV.agg [AV.int .i64 am, AV.int .i64 ae])}), (1, {call := some ⟨[], [AV.agg [AV.int .i64 am, AV.int .i64 ae]], [], AV.bool (rightB am ae), []⟩, val := some (AV.bool true)}), (2, {val := some (AV.bool false)})], .reg [(0, {val := some (AV.agg [AV.int .i64 am, AV.int .i64 ae])}), (1, {call := some ⟨[], [AV.agg [AV.int .i64 am, AV.int .i64 ae]], [], AV.agg ((AV.bool mx) :: (ints .u8 ds)), []⟩, val := some (AV.agg ((AV.bool mx) :: (ints .u8 ds)))}), (2, {nm := [1], obj := some [AObj.cells ((AV.bool false) :: (ints .u8 (List.replicate 88 0))) 50]}), (3, {obj := some [AObj.cells ((AV.bool mx) :: (ints .u8 ds)) 50]})], .reg [], .loop (⟨[none, none, none, none, some (AV.ptr 1 0), some (AV.int .i64 0), some (AV.int .i64 88), none, none, none, none, none, none, none, none, none, none, none, none, none, none, none, none, none, none, none, none, none, none, none, none, none, none, none, none, none, none, none, none, none, none, none, none, none, none, none, none, none, none, none, none, none, none, none, none, none], [some (AObj.cells [AV.int .i64 am, AV.int .i64 ae] 23), some (AObj.cells ((AV.bool mx) :: (ints .u8 ds)) 50), none, none, none, none, none]⟩) (.exit 0) (⟨[none, none, none, none, some (AV.ptr 1 0), some (AV.int .i64 (((fstGo ds 47 0) : Nat) : Int)), some (AV.int .i64 88), none, none, none, none, none, none, none, none, none, none, none, none, none, none, none, none, none, none, none, none, none, none, none, none, none, none, none, none, none, none, none, none, none, none, none, none, none, none, none, none, none, none, none, none, none, none, none, none, none], [some (AObj.cells [AV.int .i64 am, AV.int .i64 ae] 23), some (AObj.cells ((AV.bool mx) :: (ints .u8 ds)) 50), none, none, none, none, none]⟩), .loop (⟨[none, none, none, none, some (AV.ptr 1 0), some (AV.int .i64 (((fstGo ds 47 0) : Nat) : Int)), some (AV.int .i64 88), none, none, none, none, none, none, none, none, none, none, none, none, none, none, none, none, none, none, none, none, none, none, none, none, none, none, none, none, none, none, none, none, none, none, none, none, none, none, none, none, none, none, none, none, none, none, none, none, none], [some (AObj.cells [AV.int .i64 am, AV.int .i64 ae] 23), some (AObj.cells ((AV.bool mx) :: (ints .u8 ds)) 50), none, none, none, none, none]⟩) (.exit 2) (⟨[none, none, none, none, some (AV.ptr 1 0), some (AV.int .i64 (((fstGo ds 47 0) : Nat) : Int)), some (AV.int .i64 (((lstGo ds 40 88) : Nat) : Int)), none, none, none, none, none, none, none, none, none, none, none, none, none, none, none, none, none, none, none, none, none, none, none, none, none, none, none, none, none, none, none, none, none, none, none, none, none, none, none, none, none, none, none, none, none, none, none, none, none], [some (AObj.cells [AV.int .i64 am, AV.int .i64 ae] 23), some (AObj.cells ((AV.bool mx) :: (ints .u8 ds)) 50), none, none, none, none, none]⟩), .reg [(0, {nm := [2]})], .reg [(1, {val := some (AV.bool true)})], .reg [(0, {call := some ⟨[2, 3], [AV.ptr 0 0, AV.int .u8 45], [AObj.cells [AV.nilptr, AV.nilslice] 75], AV.niliface, [AObj.cells [AV.ptr 0 0, AV.vec 1 ([UInt8.ofNat (Int.toNat 45)].length)] 75, AObj.vec (u8s [UInt8.ofNat (Int.toNat 45)]) 5 1]⟩, obj := some [AObj.cells [AV.ptr 2 0, AV.vec 3 ([UInt8.ofNat (Int.toNat 45)].length)] 75, AObj.vec (u8s [UInt8.ofNat (Int.toNat 45)]) 5 1]})], .reg [], .loop (⟨[none, none, none, none, some (AV.ptr 1 0), none, some (AV.int .i64 (((lstGo ds 40 88) : Nat) : Int)), some (AV.ptr 2 0), some (AV.int .i64 (((fstGo ds 47 0) : Nat) : Int)), none, none, none, none, none, none, none, none, none, none, none, none, none, none, none, none, none, none, none, none, none, none, none, none, none, none, none, none, none, none, none, none, none, none, none, none, none, none, none, none, none, none, none, none, none, none, none], [some (AObj.cells [AV.int .i64 am, AV.int .i64 ae] 23), some (AObj.cells ((AV.bool mx) :: (ints .u8 ds)) 50), some (AObj.cells [AV.ptr 2 0, AV.vec 3 ([UInt8.ofNat (Int.toNat 45)].length)] 75), some (AObj.vec (u8s [UInt8.ofNat (Int.toNat 45)]) 5 1), none, none, none]⟩) (.exit 4) (⟨[none, none, none, none, some (AV.ptr 1 0), none, some (AV.int .i64 (((lstGo ds 40 88) : Nat) : Int)), some (AV.ptr 2 0), some (AV.int .i64 (((lstGo ds 40 88) : Nat) : Int)), none, none, none, none, none, none, none, none, none, none, none, none, none, none, none, none, none, none, none, none, none, none, none, none, none, none, none, none, none, none, none, none, none, none, none, none, none, none, none, none, none, none, none, none, none, none, none], [some (AObj.cells [AV.int .i64 am, AV.int .i64 ae] 23), some (AObj.cells ((AV.bool mx) :: (ints .u8 ds)) 50), some (AObj.cells [AV.ptr 2 0, AV.vec 3 (([UInt8.ofNat (Int.toNat 45)] ++ txt ds (fstGo ds 47 0) ((lstGo ds 40 88) - (fstGo ds 47 0))).length)] 75), some (AObj.vec (u8s ([UInt8.ofNat (Int.toNat 45)] ++ txt ds (fstGo ds 47 0) ((lstGo ds 40 88) - (fstGo ds 47 0)))) 5 1), none, none, none]⟩), .reg [(0, {call := some ⟨[2, 3], [AV.ptr 0 0], [AObj.cells [AV.ptr 0 0, AV.vec 1 (([UInt8.ofNat (Int.toNat 45)] ++ txt ds (fstGo ds 47 0) ((lstGo ds 40 88) - (fstGo ds 47 0))).length)] 75, AObj.vec (u8s ([UInt8.ofNat (Int.toNat 45)] ++ txt ds (fstGo ds 47 0) ((lstGo ds 40 88) - (fstGo ds 47 0)))) 5 1], AV.str ([UInt8.ofNat (Int.toNat 45)] ++ txt ds (fstGo ds 47 0) ((lstGo ds 40 88) - (fstGo ds 47 0))), [AObj.cells [AV.ptr 0 0, AV.vec 1 (([UInt8.ofNat (Int.toNat 45)] ++ txt ds (fstGo ds 47 0) ((lstGo ds 40 88) - (fstGo ds 47 0))).length)] 75, AObj.dead]⟩, obj := some [AObj.cells [AV.ptr 2 0, AV.vec 3 (([UInt8.ofNat (Int.toNat 45)] ++ txt ds (fstGo ds 47 0) ((lstGo ds 40 88) - (fstGo ds 47 0))).length)] 75, AObj.dead]})]] [{}, {}]
      (r := ⟨[0 ≤ 0,
          0 - 0 + 2 ≤ List.length [AV.int .i64 am, AV.int .i64 ae],
          List.take 2 (List.drop (0 - 0) [AV.int .i64 am, AV.int .i64 ae]) = [AV.int .i64 am, AV.int .i64 ae],
          [AV.agg [AV.int .i64 am, AV.int .i64 ae]] = renL [] [AV.agg [AV.int .i64 am, AV.int .i64 ae]],
          Meets Try.prog 30 [AV.agg [AV.int .i64 am, AV.int .i64 ae]] [] (AV.bool (rightB am ae)) [],
          AV.ren [] (AV.bool (rightB am ae)) = AV.bool true,
          AV.bool (!true) = AV.bool false,
          0 ≤ 0,
          0 - 0 + 2 ≤ List.length [AV.int .i64 am, AV.int .i64 ae],
          List.take 2 (List.drop (0 - 0) [AV.int .i64 am, AV.int .i64 ae]) = [AV.int .i64 am, AV.int .i64 ae],
          [AV.agg [AV.int .i64 am, AV.int .i64 ae]] = renL [] [AV.agg [AV.int .i64 am, AV.int .i64 ae]],
          Meets Try.prog 33 [AV.agg [AV.int .i64 am, AV.int .i64 ae]] [] (AV.agg ((AV.bool mx) :: (ints .u8 ds))) [],
          AV.ren [] (AV.agg ((AV.bool mx) :: (ints .u8 ds))) = AV.agg ((AV.bool mx) :: (ints .u8 ds)),
          AObj.cells (zeroCellsA Try.prog 50) 50 = AObj.cells ((AV.bool false) :: (ints .u8 (List.replicate 88 0))) 50,
          ((AV.bool mx) :: (ints .u8 ds) : List AV).length = 89,
          0 + 89 ≤ List.length ((AV.bool false) :: (ints .u8 (List.replicate 88 0))),
          AObj.cells (List.take 0 ((AV.bool false) :: (ints .u8 (List.replicate 88 0))) ++ ((AV.bool mx) :: (ints .u8 ds)) ++ List.drop (0 + 89) ((AV.bool false) :: (ints .u8 (List.replicate 88 0)))) 50 = AObj.cells ((AV.bool mx) :: (ints .u8 ds)) 50,
          AV.ptr 1 0 = AV.ptr 1 0,
          AV.int .i64 0 = AV.int .i64 0,
          AV.int .i64 88 = AV.int .i64 88,
          AObj.cells [AV.int .i64 am, AV.int .i64 ae] 23 = AObj.cells [AV.int .i64 am, AV.int .i64 ae] 23,
          AObj.cells ((AV.bool mx) :: (ints .u8 ds)) 50 = AObj.cells ((AV.bool mx) :: (ints .u8 ds)) 50,
          Tri Try.prog (.loop (loopN (bodyOf Try.f29) 0)) (⟨[none, none, none, none, some (AV.ptr 1 0), some (AV.int .i64 0), some (AV.int .i64 88), none, none, none, none, none, none, none, none, none, none, none, none, none, none, none, none, none, none, none, none, none, none, none, none, none, none, none, none, none, none, none, none, none, none, none, none, none, none, none, none, none, none, none, none, none, none, none, none, none], [some (AObj.cells [AV.int .i64 am, AV.int .i64 ae] 23), some (AObj.cells ((AV.bool mx) :: (ints .u8 ds)) 50), none, none, none, none, none]⟩) (.exit 0) (⟨[none, none, none, none, some (AV.ptr 1 0), some (AV.int .i64 (((fstGo ds 47 0) : Nat) : Int)), some (AV.int .i64 88), none, none, none, none, none, none, none, none, none, none, none, none, none, none, none, none, none, none, none, none, none, none, none, none, none, none, none, none, none, none, none, none, none, none, none, none, none, none, none, none, none, none, none, none, none, none, none, none, none], [some (AObj.cells [AV.int .i64 am, AV.int .i64 ae] 23), some (AObj.cells ((AV.bool mx) :: (ints .u8 ds)) 50), none, none, none, none, none]⟩),
          AV.ptr 1 0 = AV.ptr 1 0,
          AV.int .i64 (((fstGo ds 47 0) : Nat) : Int) = AV.int .i64 (((fstGo ds 47 0) : Nat) : Int),
          AV.int .i64 88 = AV.int .i64 88,
          AObj.cells [AV.int .i64 am, AV.int .i64 ae] 23 = AObj.cells [AV.int .i64 am, AV.int .i64 ae] 23,
          AObj.cells ((AV.bool mx) :: (ints .u8 ds)) 50 = AObj.cells ((AV.bool mx) :: (ints .u8 ds)) 50,
          Tri Try.prog (.loop (loopN (bodyOf Try.f29) 1)) (⟨[none, none, none, none, some (AV.ptr 1 0), some (AV.int .i64 (((fstGo ds 47 0) : Nat) : Int)), some (AV.int .i64 88), none, none, none, none, none, none, none, none, none, none, none, none, none, none, none, none, none, none, none, none, none, none, none, none, none, none, none, none, none, none, none, none, none, none, none, none, none, none, none, none, none, none, none, none, none, none, none, none, none], [some (AObj.cells [AV.int .i64 am, AV.int .i64 ae] 23), some (AObj.cells ((AV.bool mx) :: (ints .u8 ds)) 50), none, none, none, none, none]⟩) (.exit 2) (⟨[none, none, none, none, some (AV.ptr 1 0), some (AV.int .i64 (((fstGo ds 47 0) : Nat) : Int)), some (AV.int .i64 (((lstGo ds 40 88) : Nat) : Int)), none, none, none, none, none, none, none, none, none, none, none, none, none, none, none, none, none, none, none, none, none, none, none, none, none, none, none, none, none, none, none, none, none, none, none, none, none, none, none, none, none, none, none, none, none, none, none, none, none], [some (AObj.cells [AV.int .i64 am, AV.int .i64 ae] 23), some (AObj.cells ((AV.bool mx) :: (ints .u8 ds)) 50), none, none, none, none, none]⟩),
          0 ≤ 0,
          ((AV.bool mx) :: (ints .u8 ds) : List AV)[0 - 0]? = some (AV.bool true),
          [AV.ptr 2 0, AV.int .u8 45] = renL [2, 3] [AV.ptr 0 0, AV.int .u8 45],
          Meets Try.prog 61 [AV.ptr 0 0, AV.int .u8 45] [AObj.cells [AV.nilptr, AV.nilslice] 75] AV.niliface [AObj.cells [AV.ptr 0 0, AV.vec 1 ([UInt8.ofNat (Int.toNat 45)].length)] 75, AObj.vec (u8s [UInt8.ofNat (Int.toNat 45)]) 5 1],
          Fits (AObj.cells [AV.nilptr, AV.nilslice] 75) (AObj.ren [2, 3] (AObj.cells [AV.nilptr, AV.nilslice] 75)),
          updOf [2, 3] [AObj.cells [AV.nilptr, AV.nilslice] 75] [AObj.cells [AV.nilptr, AV.nilslice] 75] [AObj.cells [AV.ptr 0 0, AV.vec 1 ([UInt8.ofNat (Int.toNat 45)].length)] 75, AObj.vec (u8s [UInt8.ofNat (Int.toNat 45)]) 5 1] ++ List.map (fun x => x.ren [2, 3]) (List.drop 1 [AObj.cells [AV.ptr 0 0, AV.vec 1 ([UInt8.ofNat (Int.toNat 45)].length)] 75, AObj.vec (u8s [UInt8.ofNat (Int.toNat 45)]) 5 1]) = [AObj.cells [AV.ptr 2 0, AV.vec 3 ([UInt8.ofNat (Int.toNat 45)].length)] 75, AObj.vec (u8s [UInt8.ofNat (Int.toNat 45)]) 5 1],
          AV.ptr 1 0 = AV.ptr 1 0,
          AV.int .i64 (((lstGo ds 40 88) : Nat) : Int) = AV.int .i64 (((lstGo ds 40 88) : Nat) : Int),
          AV.ptr 2 0 = AV.ptr 2 0,
          AV.int .i64 (((fstGo ds 47 0) : Nat) : Int) = AV.int .i64 (((fstGo ds 47 0) : Nat) : Int),
          AObj.cells [AV.int .i64 am, AV.int .i64 ae] 23 = AObj.cells [AV.int .i64 am, AV.int .i64 ae] 23,
          AObj.cells ((AV.bool mx) :: (ints .u8 ds)) 50 = AObj.cells ((AV.bool mx) :: (ints .u8 ds)) 50,
          AObj.cells [AV.ptr 2 0, AV.vec 3 ([UInt8.ofNat (Int.toNat 45)].length)] 75 = AObj.cells [AV.ptr 2 0, AV.vec 3 ([UInt8.ofNat (Int.toNat 45)].length)] 75,
          AObj.vec (u8s [UInt8.ofNat (Int.toNat 45)]) 5 1 = AObj.vec (u8s [UInt8.ofNat (Int.toNat 45)]) 5 1,
          Tri Try.prog (.loop (loopN (bodyOf Try.f29) 2)) (⟨[none, none, none, none, some (AV.ptr 1 0), none, some (AV.int .i64 (((lstGo ds 40 88) : Nat) : Int)), some (AV.ptr 2 0), some (AV.int .i64 (((fstGo ds 47 0) : Nat) : Int)), none, none, none, none, none, none, none, none, none, none, none, none, none, none, none, none, none, none, none, none, none, none, none, none, none, none, none, none, none, none, none, none, none, none, none, none, none, none, none, none, none, none, none, none, none, none, none], [some (AObj.cells [AV.int .i64 am, AV.int .i64 ae] 23), some (AObj.cells ((AV.bool mx) :: (ints .u8 ds)) 50), some (AObj.cells [AV.ptr 2 0, AV.vec 3 ([UInt8.ofNat (Int.toNat 45)].length)] 75), some (AObj.vec (u8s [UInt8.ofNat (Int.toNat 45)]) 5 1), none, none, none]⟩) (.exit 4) (⟨[none, none, none, none, some (AV.ptr 1 0), none, some (AV.int .i64 (((lstGo ds 40 88) : Nat) : Int)), some (AV.ptr 2 0), some (AV.int .i64 (((lstGo ds 40 88) : Nat) : Int)), none, none, none, none, none, none, none, none, none, none, none, none, none, none, none, none, none, none, none, none, none, none, none, none, none, none, none, none, none, none, none, none, none, none, none, none, none, none, none, none, none, none, none, none, none, none, none], [some (AObj.cells [AV.int .i64 am, AV.int .i64 ae] 23), some (AObj.cells ((AV.bool mx) :: (ints .u8 ds)) 50), some (AObj.cells [AV.ptr 2 0, AV.vec 3 (([UInt8.ofNat (Int.toNat 45)] ++ txt ds (fstGo ds 47 0) ((lstGo ds 40 88) - (fstGo ds 47 0))).length)] 75), some (AObj.vec (u8s ([UInt8.ofNat (Int.toNat 45)] ++ txt ds (fstGo ds 47 0) ((lstGo ds 40 88) - (fstGo ds 47 0)))) 5 1), none, none, none]⟩),
          [AV.ptr 2 0] = renL [2, 3] [AV.ptr 0 0],
          Meets Try.prog 62 [AV.ptr 0 0] [AObj.cells [AV.ptr 0 0, AV.vec 1 (([UInt8.ofNat (Int.toNat 45)] ++ txt ds (fstGo ds 47 0) ((lstGo ds 40 88) - (fstGo ds 47 0))).length)] 75, AObj.vec (u8s ([UInt8.ofNat (Int.toNat 45)] ++ txt ds (fstGo ds 47 0) ((lstGo ds 40 88) - (fstGo ds 47 0)))) 5 1] (AV.str ([UInt8.ofNat (Int.toNat 45)] ++ txt ds (fstGo ds 47 0) ((lstGo ds 40 88) - (fstGo ds 47 0)))) [AObj.cells [AV.ptr 0 0, AV.vec 1 (([UInt8.ofNat (Int.toNat 45)] ++ txt ds (fstGo ds 47 0) ((lstGo ds 40 88) - (fstGo ds 47 0))).length)] 75, AObj.dead],
          Fits (AObj.cells [AV.ptr 2 0, AV.vec 3 (([UInt8.ofNat (Int.toNat 45)] ++ txt ds (fstGo ds 47 0) ((lstGo ds 40 88) - (fstGo ds 47 0))).length)] 75) (AObj.ren [2, 3] (AObj.cells [AV.ptr 0 0, AV.vec 1 (([UInt8.ofNat (Int.toNat 45)] ++ txt ds (fstGo ds 47 0) ((lstGo ds 40 88) - (fstGo ds 47 0))).length)] 75)),
          Fits (AObj.vec (u8s ([UInt8.ofNat (Int.toNat 45)] ++ txt ds (fstGo ds 47 0) ((lstGo ds 40 88) - (fstGo ds 47 0)))) 5 1) (AObj.ren [2, 3] (AObj.vec (u8s ([UInt8.ofNat (Int.toNat 45)] ++ txt ds (fstGo ds 47 0) ((lstGo ds 40 88) - (fstGo ds 47 0)))) 5 1)),
          updOf [2, 3] [AObj.cells [AV.ptr 2 0, AV.vec 3 (([UInt8.ofNat (Int.toNat 45)] ++ txt ds (fstGo ds 47 0) ((lstGo ds 40 88) - (fstGo ds 47 0))).length)] 75, AObj.vec (u8s ([UInt8.ofNat (Int.toNat 45)] ++ txt ds (fstGo ds 47 0) ((lstGo ds 40 88) - (fstGo ds 47 0)))) 5 1] [AObj.cells [AV.ptr 0 0, AV.vec 1 (([UInt8.ofNat (Int.toNat 45)] ++ txt ds (fstGo ds 47 0) ((lstGo ds 40 88) - (fstGo ds 47 0))).length)] 75, AObj.vec (u8s ([UInt8.ofNat (Int.toNat 45)] ++ txt ds (fstGo ds 47 0) ((lstGo ds 40 88) - (fstGo ds 47 0)))) 5 1] [AObj.cells [AV.ptr 0 0, AV.vec 1 (([UInt8.ofNat (Int.toNat 45)] ++ txt ds (fstGo ds 47 0) ((lstGo ds 40 88) - (fstGo ds 47 0))).length)] 75, AObj.dead] ++ List.map (fun x => x.ren [2, 3]) (List.drop 2 [AObj.cells [AV.ptr 0 0, AV.vec 1 (([UInt8.ofNat (Int.toNat 45)] ++ txt ds (fstGo ds 47 0) ((lstGo ds 40 88) - (fstGo ds 47 0))).length)] 75, AObj.dead]) = [AObj.cells [AV.ptr 2 0, AV.vec 3 (([UInt8.ofNat (Int.toNat 45)] ++ txt ds (fstGo ds 47 0) ((lstGo ds 40 88) - (fstGo ds 47 0))).length)] 75, AObj.dead]],
        .ret, ⟨[none, none, some (AV.str ([UInt8.ofNat (Int.toNat 45)] ++ txt ds (fstGo ds 47 0) ((lstGo ds 40 88) - (fstGo ds 47 0)))), some (AV.int .i64 0), some (AV.ptr 1 0), none, some (AV.int .i64 (((lstGo ds 40 88) : Nat) : Int)), some (AV.ptr 2 0), some (AV.int .i64 (((lstGo ds 40 88) : Nat) : Int)), none, none, none, none, none, none, none, none, none, none, none, none, none, none, none, none, none, none, none, none, none, none, none, none, none, none, none, none, none, none, none, none, none, none, none, none, none, none, none, none, none, none, none, none, none, none, some (AV.str ([UInt8.ofNat (Int.toNat 45)] ++ txt ds (fstGo ds 47 0) ((lstGo ds 40 88) - (fstGo ds 47 0))))], [some (AObj.cells [AV.int .i64 am, AV.int .i64 ae] 23), some (AObj.cells ((AV.bool mx) :: (ints .u8 ds)) 50), some (AObj.cells [AV.ptr 2 0, AV.vec 3 (([UInt8.ofNat (Int.toNat 45)] ++ txt ds (fstGo ds 47 0) ((lstGo ds 40 88) - (fstGo ds 47 0))).length)] 75), some (AObj.dead), none, none, none]⟩, []⟩)
      (ob := [AV.tuple [AV.str ([UInt8.ofNat (Int.toNat 45)] ++ txt ds (fstGo ds 47 0) ((lstGo ds 40 88) - (fstGo ds 47 0))), AV.int .i64 0] = AV.tuple [AV.str (textB mx ds), AV.int .i64 0],
          Avoid (fun n => decide (0 ≤ n)) (AV.tuple [AV.str (textB mx ds), AV.int .i64 0])])
      Try.func29 (by kernel_rfl) Try.call29 (by kernel_rfl)
      ⟨Nat.zero_le _, Nat.le_of_ble_eq_true rfl, rfl, rfl, right_meets am ae, (by rw [hr]; rfl), rfl, Nat.zero_le _, Nat.le_of_ble_eq_true rfl, rfl, rfl, hlay, by simp only [renL, AV.ren, renL_ints, renL_u8s, renL_append], by kernel_rfl, (by simp only [List.length_cons, List.length_nil, List.length_append, ints_length, u8s_length, List.length_replicate, List.length_set, List.length_map, digs_length] <;> omega), (by simp only [List.length_cons, List.length_nil, List.length_append, ints_length, u8s_length, List.length_replicate, List.length_set, List.length_map, digs_length] <;> omega), store_whole (by simp only [List.length_cons, List.length_nil, List.length_append, ints_length, u8s_length, List.length_replicate, List.length_set, List.length_map, digs_length] <;> omega), rfl, rfl, rfl, rfl, rfl, text_l0 am ae mx ds hl 47 0 rfl, rfl, rfl, rfl, rfl, rfl, text_l1 am ae mx ds (fstGo ds 47 0) hl 40 88 rfl (by decide), Nat.zero_le _, atT (rfl) c1, rfl, writeByte_new 45 (by omega), Fits.refl _, by simp [updOf, AObj.owned, AObj.ren, renL, AV.ren, renL_ints, renL_u8s, renL_append], rfl, rfl, rfl, rfl, rfl, rfl, rfl, rfl, text_l2u am ae mx ds (fstGo ds 47 0) (lstGo ds 40 88) [UInt8.ofNat (Int.toNat 45)] (by decide) hl hd (by omega) (by omega), rfl, builderString_meets ([UInt8.ofNat (Int.toNat 45)] ++ txt ds (fstGo ds 47 0) ((lstGo ds 40 88) - (fstGo ds 47 0))) (by first | exact txt_ne _ _ _ (by omega) | simp) (by first | omega | (simp only [List.length_append, List.length_cons, List.length_nil] <;> omega)), Fits.refl _, Fits.of_eq (by simp only [AObj.ren, renL, AV.ren, renL_ints, renL_u8s, renL_append]), by simp [updOf, AObj.owned, AObj.ren, renL, AV.ren, renL_ints, renL_u8s, renL_append], trivial⟩
      (.inl rfl) (by kernel_rfl) ⟨by simp [textB, *], Avoid.tuple (AvoidL.cons (Avoid.str _ _) (AvoidL.cons (Avoid.int _ _ _) (AvoidL.nil _))), trivial⟩
  · exact meets_of_exec (fn := Try.f29) 7 [.reg [(0, {nm := [0]})], .reg [(0, {val := some (AV.agg [AV.int .i64 am, AV.int .i64 ae])}), (1, {call := some ⟨[], [AV.agg [AV.int .i64 am, AV.int .i64 ae]], [], AV.bool (rightB am ae), []⟩, val := some (AV.bool true)}), (2, {val := some (AV.bool false)})], .reg [(0, {val := some (AV.agg [AV.int .i64 am, AV.int .i64 ae])}), (1, {call := some ⟨[], [AV.agg [AV.int .i64 am, AV.int .i64 ae]], [], AV.agg ((AV.bool mx) :: (ints .u8 ds)), []⟩, val := some (AV.agg ((AV.bool mx) :: (ints .u8 ds)))}), (2, {nm := [1], obj := some [AObj.cells ((AV.bool false) :: (ints .u8 (List.replicate 88 0))) 50]}), (3, {obj := some [AObj.cells ((AV.bool mx) :: (ints .u8 ds)) 50]})], .reg [], .loop (⟨[none, none, none, none, some (AV.ptr 1 0), some (AV.int .i64 0), some (AV.int .i64 88), none, none, none, none, none, none, none, none, none, none, none, none, none, none, none, none, none, none, none, none, none, none, none, none, none, none, none, none, none, none, none, none, none, none, none, none, none, none, none, none, none, none, none, none, none, none, none, none, none], [some (AObj.cells [AV.int .i64 am, AV.int .i64 ae] 23), some (AObj.cells ((AV.bool mx) :: (ints .u8 ds)) 50), none, none, none, none, none]⟩) (.exit 0) (⟨[none, none, none, none, some (AV.ptr 1 0), some (AV.int .i64 (((fstGo ds 47 0) : Nat) : Int)), some (AV.int .i64 88), none, none, none, none, none, none, none, none, none, none, none, none, none, none, none, none, none, none, none, none, none, none, none, none, none, none, none, none, none, none, none, none, none, none, none, none, none, none, none, none, none, none, none, none, none, none, none, none, none], [some (AObj.cells [AV.int .i64 am, AV.int .i64 ae] 23), some (AObj.cells ((AV.bool mx) :: (ints .u8 ds)) 50), none, none, none, none, none]⟩), .loop (⟨[none, none, none, none, some (AV.ptr 1 0), some (AV.int .i64 (((fstGo ds 47 0) : Nat) : Int)), some (AV.int .i64 88), none, none, none, none, none, none, none, none, none, none, none, none, none, none, none, none, none, none, none, none, none, none, none, none, none, none, none, none, none, none, none, none, none, none, none, none, none, none, none, none, none, none, none, none, none, none, none, none, none], [some (AObj.cells [AV.int .i64 am, AV.int .i64 ae] 23), some (AObj.cells ((AV.bool mx) :: (ints .u8 ds)) 50), none, none, none, none, none]⟩) (.exit 2) (⟨[none, none, none, none, some (AV.ptr 1 0), some (AV.int .i64 (((fstGo ds 47 0) : Nat) : Int)), some (AV.int .i64 (((lstGo ds 40 88) : Nat) : Int)), none, none, none, none, none, none, none, none, none, none, none, none, none, none, none, none, none, none, none, none, none, none, none, none, none, none, none, none, none, none, none, none, none, none, none, none, none, none, none, none, none, none, none, none, none, none, none, none, none], [some (AObj.cells [AV.int .i64 am, AV.int .i64 ae] 23), some (AObj.cells ((AV.bool mx) :: (ints .u8 ds)) 50), none, none, none, none, none]⟩), .reg [(0, {nm := [2]})], .reg [(1, {val := some (AV.bool false)})], .reg [], .loop (⟨[none, none, none, none, some (AV.ptr 1 0), none, some (AV.int .i64 (((lstGo ds 40 88) : Nat) : Int)), some (AV.ptr 2 0), some (AV.int .i64 (((fstGo ds 47 0) : Nat) : Int)), none, none, none, none, none, none, none, none, none, none, none, none, none, none, none, none, none, none, none, none, none, none, none, none, none, none, none, none, none, none, none, none, none, none, none, none, none, none, none, none, none, none, none, none, none, none, none], [some (AObj.cells [AV.int .i64 am, AV.int .i64 ae] 23), some (AObj.cells ((AV.bool mx) :: (ints .u8 ds)) 50), some (AObj.cells [AV.nilptr, AV.nilslice] 75), none, none, none, none]⟩) (.exit 4) (⟨[none, none, none, none, some (AV.ptr 1 0), none, some (AV.int .i64 (((lstGo ds 40 88) : Nat) : Int)), some (AV.ptr 2 0), some (AV.int .i64 (((lstGo ds 40 88) : Nat) : Int)), none, none, none, none, none, none, none, none, none, none, none, none, none, none, none, none, none, none, none, none, none, none, none, none, none, none, none, none, none, none, none, none, none, none, none, none, none, none, none, none, none, none, none, none, none, none, none], [some (AObj.cells [AV.int .i64 am, AV.int .i64 ae] 23), some (AObj.cells ((AV.bool mx) :: (ints .u8 ds)) 50), some (AObj.cells [AV.ptr 2 0, AV.vec 3 ((txt ds (fstGo ds 47 0) ((lstGo ds 40 88) - (fstGo ds 47 0))).length)] 75), some (AObj.vec (u8s (txt ds (fstGo ds 47 0) ((lstGo ds 40 88) - (fstGo ds 47 0)))) 5 1), none, none, none]⟩), .reg [(0, {call := some ⟨[2, 3], [AV.ptr 0 0], [AObj.cells [AV.ptr 0 0, AV.vec 1 ((txt ds (fstGo ds 47 0) ((lstGo ds 40 88) - (fstGo ds 47 0))).length)] 75, AObj.vec (u8s (txt ds (fstGo ds 47 0) ((lstGo ds 40 88) - (fstGo ds 47 0)))) 5 1], AV.str (txt ds (fstGo ds 47 0) ((lstGo ds 40 88) - (fstGo ds 47 0))), [AObj.cells [AV.ptr 0 0, AV.vec 1 ((txt ds (fstGo ds 47 0) ((lstGo ds 40 88) - (fstGo ds 47 0))).length)] 75, AObj.dead]⟩, obj := some [AObj.cells [AV.ptr 2 0, AV.vec 3 ((txt ds (fstGo ds 47 0) ((lstGo ds 40 88) - (fstGo ds 47 0))).length)] 75, AObj.dead]})]] [{}, {}]
      (r := ⟨[0 ≤ 0,
          0 - 0 + 2 ≤ List.length [AV.int .i64 am, AV.int .i64 ae],
          List.take 2 (List.drop (0 - 0) [AV.int .i64 am, AV.int .i64 ae]) = [AV.int .i64 am, AV.int .i64 ae],
          [AV.agg [AV.int .i64 am, AV.int .i64 ae]] = renL [] [AV.agg [AV.int .i64 am, AV.int .i64 ae]],
          Meets Try.prog 30 [AV.agg [AV.int .i64 am, AV.int .i64 ae]] [] (AV.bool (rightB am ae)) [],
          AV.ren [] (AV.bool (rightB am ae)) = AV.bool true,
          AV.bool (!true) = AV.bool false,
          0 ≤ 0,
          0 - 0 + 2 ≤ List.length [AV.int .i64 am, AV.int .i64 ae],
          List.take 2 (List.drop (0 - 0) [AV.int .i64 am, AV.int .i64 ae]) = [AV.int .i64 am, AV.int .i64 ae],
          [AV.agg [AV.int .i64 am, AV.int .i64 ae]] = renL [] [AV.agg [AV.int .i64 am, AV.int .i64 ae]],
          Meets Try.prog 33 [AV.agg [AV.int .i64 am, AV.int .i64 ae]] [] (AV.agg ((AV.bool mx) :: (ints .u8 ds))) [],
          AV.ren [] (AV.agg ((AV.bool mx) :: (ints .u8 ds))) = AV.agg ((AV.bool mx) :: (ints .u8 ds)),
          AObj.cells (zeroCellsA Try.prog 50) 50 = AObj.cells ((AV.bool false) :: (ints .u8 (List.replicate 88 0))) 50,
          ((AV.bool mx) :: (ints .u8 ds) : List AV).length = 89,
          0 + 89 ≤ List.length ((AV.bool false) :: (ints .u8 (List.replicate 88 0))),
          AObj.cells (List.take 0 ((AV.bool false) :: (ints .u8 (List.replicate 88 0))) ++ ((AV.bool mx) :: (ints .u8 ds)) ++ List.drop (0 + 89) ((AV.bool false) :: (ints .u8 (List.replicate 88 0)))) 50 = AObj.cells ((AV.bool mx) :: (ints .u8 ds)) 50,
          AV.ptr 1 0 = AV.ptr 1 0,
          AV.int .i64 0 = AV.int .i64 0,
          AV.int .i64 88 = AV.int .i64 88,
          AObj.cells [AV.int .i64 am, AV.int .i64 ae] 23 = AObj.cells [AV.int .i64 am, AV.int .i64 ae] 23,
          AObj.cells ((AV.bool mx) :: (ints .u8 ds)) 50 = AObj.cells ((AV.bool mx) :: (ints .u8 ds)) 50,
          Tri Try.prog (.loop (loopN (bodyOf Try.f29) 0)) (⟨[none, none, none, none, some (AV.ptr 1 0), some (AV.int .i64 0), some (AV.int .i64 88), none, none, none, none, none, none, none, none, none, none, none, none, none, none, none, none, none, none, none, none, none, none, none, none, none, none, none, none, none, none, none, none, none, none, none, none, none, none, none, none, none, none, none, none, none, none, none, none, none], [some (AObj.cells [AV.int .i64 am, AV.int .i64 ae] 23), some (AObj.cells ((AV.bool mx) :: (ints .u8 ds)) 50), none, none, none, none, none]⟩) (.exit 0) (⟨[none, none, none, none, some (AV.ptr 1 0), some (AV.int .i64 (((fstGo ds 47 0) : Nat) : Int)), some (AV.int .i64 88), none, none, none, none, none, none, none, none, none, none, none, none, none, none, none, none, none, none, none, none, none, none, none, none, none, none, none, none, none, none, none, none, none, none, none, none, none, none, none, none, none, none, none, none, none, none, none, none, none], [some (AObj.cells [AV.int .i64 am, AV.int .i64 ae] 23), some (AObj.cells ((AV.bool mx) :: (ints .u8 ds)) 50), none, none, none, none, none]⟩),
          AV.ptr 1 0 = AV.ptr 1 0,
          AV.int .i64 (((fstGo ds 47 0) : Nat) : Int) = AV.int .i64 (((fstGo ds 47 0) : Nat) : Int),
          AV.int .i64 88 = AV.int .i64 88,
          AObj.cells [AV.int .i64 am, AV.int .i64 ae] 23 = AObj.cells [AV.int .i64 am, AV.int .i64 ae] 23,
          AObj.cells ((AV.bool mx) :: (ints .u8 ds)) 50 = AObj.cells ((AV.bool mx) :: (ints .u8 ds)) 50,
          Tri Try.prog (.loop (loopN (bodyOf Try.f29) 1)) (⟨[none, none, none, none, some (AV.ptr 1 0), some (AV.int .i64 (((fstGo ds 47 0) : Nat) : Int)), some (AV.int .i64 88), none, none, none, none, none, none, none, none, none, none, none, none, none, none, none, none, none, none, none, none, none, none, none, none, none, none, none, none, none, none, none, none, none, none, none, none, none, none, none, none, none, none, none, none, none, none, none, none, none], [some (AObj.cells [AV.int .i64 am, AV.int .i64 ae] 23), some (AObj.cells ((AV.bool mx) :: (ints .u8 ds)) 50), none, none, none, none, none]⟩) (.exit 2) (⟨[none, none, none, none, some (AV.ptr 1 0), some (AV.int .i64 (((fstGo ds 47 0) : Nat) : Int)), some (AV.int .i64 (((lstGo ds 40 88) : Nat) : Int)), none, none, none, none, none, none, none, none, none, none, none, none, none, none, none, none, none, none, none, none, none, none, none, none, none, none, none, none, none, none, none, none, none, none, none, none, none, none, none, none, none, none, none, none, none, none, none, none, none], [some (AObj.cells [AV.int .i64 am, AV.int .i64 ae] 23), some (AObj.cells ((AV.bool mx) :: (ints .u8 ds)) 50), none, none, none, none, none]⟩),
          0 ≤ 0,
          ((AV.bool mx) :: (ints .u8 ds) : List AV)[0 - 0]? = some (AV.bool false),
          AV.ptr 1 0 = AV.ptr 1 0,
          AV.int .i64 (((lstGo ds 40 88) : Nat) : Int) = AV.int .i64 (((lstGo ds 40 88) : Nat) : Int),
          AV.ptr 2 0 = AV.ptr 2 0,
          AV.int .i64 (((fstGo ds 47 0) : Nat) : Int) = AV.int .i64 (((fstGo ds 47 0) : Nat) : Int),
          AObj.cells [AV.int .i64 am, AV.int .i64 ae] 23 = AObj.cells [AV.int .i64 am, AV.int .i64 ae] 23,
          AObj.cells ((AV.bool mx) :: (ints .u8 ds)) 50 = AObj.cells ((AV.bool mx) :: (ints .u8 ds)) 50,
          AObj.cells [AV.nilptr, AV.nilslice] 75 = AObj.cells [AV.nilptr, AV.nilslice] 75,
          Tri Try.prog (.loop (loopN (bodyOf Try.f29) 2)) (⟨[none, none, none, none, some (AV.ptr 1 0), none, some (AV.int .i64 (((lstGo ds 40 88) : Nat) : Int)), some (AV.ptr 2 0), some (AV.int .i64 (((fstGo ds 47 0) : Nat) : Int)), none, none, none, none, none, none, none, none, none, none, none, none, none, none, none, none, none, none, none, none, none, none, none, none, none, none, none, none, none, none, none, none, none, none, none, none, none, none, none, none, none, none, none, none, none, none, none], [some (AObj.cells [AV.int .i64 am, AV.int .i64 ae] 23), some (AObj.cells ((AV.bool mx) :: (ints .u8 ds)) 50), some (AObj.cells [AV.nilptr, AV.nilslice] 75), none, none, none, none]⟩) (.exit 4) (⟨[none, none, none, none, some (AV.ptr 1 0), none, some (AV.int .i64 (((lstGo ds 40 88) : Nat) : Int)), some (AV.ptr 2 0), some (AV.int .i64 (((lstGo ds 40 88) : Nat) : Int)), none, none, none, none, none, none, none, none, none, none, none, none, none, none, none, none, none, none, none, none, none, none, none, none, none, none, none, none, none, none, none, none, none, none, none, none, none, none, none, none, none, none, none, none, none, none, none], [some (AObj.cells [AV.int .i64 am, AV.int .i64 ae] 23), some (AObj.cells ((AV.bool mx) :: (ints .u8 ds)) 50), some (AObj.cells [AV.ptr 2 0, AV.vec 3 ((txt ds (fstGo ds 47 0) ((lstGo ds 40 88) - (fstGo ds 47 0))).length)] 75), some (AObj.vec (u8s (txt ds (fstGo ds 47 0) ((lstGo ds 40 88) - (fstGo ds 47 0)))) 5 1), none, none, none]⟩),
          [AV.ptr 2 0] = renL [2, 3] [AV.ptr 0 0],
          Meets Try.prog 62 [AV.ptr 0 0] [AObj.cells [AV.ptr 0 0, AV.vec 1 ((txt ds (fstGo ds 47 0) ((lstGo ds 40 88) - (fstGo ds 47 0))).length)] 75, AObj.vec (u8s (txt ds (fstGo ds 47 0) ((lstGo ds 40 88) - (fstGo ds 47 0)))) 5 1] (AV.str (txt ds (fstGo ds 47 0) ((lstGo ds 40 88) - (fstGo ds 47 0)))) [AObj.cells [AV.ptr 0 0, AV.vec 1 ((txt ds (fstGo ds 47 0) ((lstGo ds 40 88) - (fstGo ds 47 0))).length)] 75, AObj.dead],
          Fits (AObj.cells [AV.ptr 2 0, AV.vec 3 ((txt ds (fstGo ds 47 0) ((lstGo ds 40 88) - (fstGo ds 47 0))).length)] 75) (AObj.ren [2, 3] (AObj.cells [AV.ptr 0 0, AV.vec 1 ((txt ds (fstGo ds 47 0) ((lstGo ds 40 88) - (fstGo ds 47 0))).length)] 75)),
          Fits (AObj.vec (u8s (txt ds (fstGo ds 47 0) ((lstGo ds 40 88) - (fstGo ds 47 0)))) 5 1) (AObj.ren [2, 3] (AObj.vec (u8s (txt ds (fstGo ds 47 0) ((lstGo ds 40 88) - (fstGo ds 47 0)))) 5 1)),
          updOf [2, 3] [AObj.cells [AV.ptr 2 0, AV.vec 3 ((txt ds (fstGo ds 47 0) ((lstGo ds 40 88) - (fstGo ds 47 0))).length)] 75, AObj.vec (u8s (txt ds (fstGo ds 47 0) ((lstGo ds 40 88) - (fstGo ds 47 0)))) 5 1] [AObj.cells [AV.ptr 0 0, AV.vec 1 ((txt ds (fstGo ds 47 0) ((lstGo ds 40 88) - (fstGo ds 47 0))).length)] 75, AObj.vec (u8s (txt ds (fstGo ds 47 0) ((lstGo ds 40 88) - (fstGo ds 47 0)))) 5 1] [AObj.cells [AV.ptr 0 0, AV.vec 1 ((txt ds (fstGo ds 47 0) ((lstGo ds 40 88) - (fstGo ds 47 0))).length)] 75, AObj.dead] ++ List.map (fun x => x.ren [2, 3]) (List.drop 2 [AObj.cells [AV.ptr 0 0, AV.vec 1 ((txt ds (fstGo ds 47 0) ((lstGo ds 40 88) - (fstGo ds 47 0))).length)] 75, AObj.dead]) = [AObj.cells [AV.ptr 2 0, AV.vec 3 ((txt ds (fstGo ds 47 0) ((lstGo ds 40 88) - (fstGo ds 47 0))).length)] 75, AObj.dead]],
        .ret, ⟨[none, none, some (AV.str (txt ds (fstGo ds 47 0) ((lstGo ds 40 88) - (fstGo ds 47 0)))), some (AV.int .i64 0), some (AV.ptr 1 0), none, some (AV.int .i64 (((lstGo ds 40 88) : Nat) : Int)), some (AV.ptr 2 0), some (AV.int .i64 (((lstGo ds 40 88) : Nat) : Int)), none, none, none, none, none, none, none, none, none, none, none, none, none, none, none, none, none, none, none, none, none, none, none, none, none, none, none, none, none, none, none, none, none, none, none, none, none, none, none, none, none, none, none, none, none, none, some (AV.str (txt ds (fstGo ds 47 0) ((lstGo ds 40 88) - (fstGo ds 47 0))))], [some (AObj.cells [AV.int .i64 am, AV.int .i64 ae] 23), some (AObj.cells ((AV.bool mx) :: (ints .u8 ds)) 50), some (AObj.cells [AV.ptr 2 0, AV.vec 3 ((txt ds (fstGo ds 47 0) ((lstGo ds 40 88) - (fstGo ds 47 0))).length)] 75), some (AObj.dead), none, none, none]⟩, []⟩)
      (ob := [AV.tuple [AV.str (txt ds (fstGo ds 47 0) ((lstGo ds 40 88) - (fstGo ds 47 0))), AV.int .i64 0] = AV.tuple [AV.str (textB mx ds), AV.int .i64 0],
          Avoid (fun n => decide (0 ≤ n)) (AV.tuple [AV.str (textB mx ds), AV.int .i64 0])])
      Try.func29 (by kernel_rfl) Try.call29 (by kernel_rfl)
      ⟨Nat.zero_le _, Nat.le_of_ble_eq_true rfl, rfl, rfl, right_meets am ae, (by rw [hr]; rfl), rfl, Nat.zero_le _, Nat.le_of_ble_eq_true rfl, rfl, rfl, hlay, by simp only [renL, AV.ren, renL_ints, renL_u8s, renL_append], by kernel_rfl, (by simp only [List.length_cons, List.length_nil, List.length_append, ints_length, u8s_length, List.length_replicate, List.length_set, List.length_map, digs_length] <;> omega), (by simp only [List.length_cons, List.length_nil, List.length_append, ints_length, u8s_length, List.length_replicate, List.length_set, List.length_map, digs_length] <;> omega), store_whole (by simp only [List.length_cons, List.length_nil, List.length_append, ints_length, u8s_length, List.length_replicate, List.length_set, List.length_map, digs_length] <;> omega), rfl, rfl, rfl, rfl, rfl, text_l0 am ae mx ds hl 47 0 rfl, rfl, rfl, rfl, rfl, rfl, text_l1 am ae mx ds (fstGo ds 47 0) hl 40 88 rfl (by decide), Nat.zero_le _, atF (rfl) c1, rfl, rfl, rfl, rfl, rfl, rfl, rfl, text_l2n am ae mx ds (fstGo ds 47 0) (lstGo ds 40 88) hl hd (by omega) (by omega) (by omega), rfl, builderString_meets (txt ds (fstGo ds 47 0) ((lstGo ds 40 88) - (fstGo ds 47 0))) (by first | exact txt_ne _ _ _ (by omega) | simp) (by first | omega | (simp only [List.length_append, List.length_cons, List.length_nil] <;> omega)), Fits.refl _, Fits.of_eq (by simp only [AObj.ren, renL, AV.ren, renL_ints, renL_u8s, renL_append]), by simp [updOf, AObj.owned, AObj.ren, renL, AV.ren, renL_ints, renL_u8s, renL_append], trivial⟩
      (.inl rfl) (by kernel_rfl) ⟨by simp [textB, *], Avoid.tuple (AvoidL.cons (Avoid.str _ _) (AvoidL.cons (Avoid.int _ _ _) (AvoidL.nil _))), trivial⟩

theorem text_bad (am ae : Int) (hr : ¬ rightB am ae = true) : Meets Try.prog 29 [AV.agg [AV.int .i64 am, AV.int .i64 ae]] [] (AV.tuple [AV.str [], AV.int .i64 10]) [] := by
  exact meets_of_exec (fn := Try.f29) 3 [.reg [(0, {nm := [0]})], .reg [(0, {val := some (AV.agg [AV.int .i64 am, AV.int .i64 ae])}), (1, {call := some ⟨[], [AV.agg [AV.int .i64 am, AV.int .i64 ae]], [], AV.bool (rightB am ae), []⟩, val := some (AV.bool false)}), (2, {val := some (AV.bool true)})], .reg []] [{}, {}]
    (r := ⟨[0 ≤ 0,
        0 - 0 + 2 ≤ List.length [AV.int .i64 am, AV.int .i64 ae],
        List.take 2 (List.drop (0 - 0) [AV.int .i64 am, AV.int .i64 ae]) = [AV.int .i64 am, AV.int .i64 ae],
        [AV.agg [AV.int .i64 am, AV.int .i64 ae]] = renL [] [AV.agg [AV.int .i64 am, AV.int .i64 ae]],
        Meets Try.prog 30 [AV.agg [AV.int .i64 am, AV.int .i64 ae]] [] (AV.bool (rightB am ae)) [],
        AV.ren [] (AV.bool (rightB am ae)) = AV.bool false,
        AV.bool (!false) = AV.bool true],
      .ret, ⟨[some (AV.agg [AV.int .i64 am, AV.int .i64 ae]), some (AV.ptr 0 0), some (AV.str []), some (AV.int .i64 10), none, none, none, none, none, some (AV.agg [AV.int .i64 am, AV.int .i64 ae]), some (AV.bool false), some (AV.bool true), none, none, none, none, none, none, none, none, none, none, none, none, none, none, none, none, none, none, none, none, none, none, none, none, none, none, none, none, none, none, none, none, none, none, none, none, none, none, none, none, none, none, none, none], [some (AObj.cells [AV.int .i64 am, AV.int .i64 ae] 23), none, none]⟩, []⟩)
    (ob := [AV.tuple [AV.str [], AV.int .i64 10] = AV.tuple [AV.str [], AV.int .i64 10],
        Avoid (fun n => decide (0 ≤ n)) (AV.tuple [AV.str [], AV.int .i64 10])])
    Try.func29 (by kernel_rfl) Try.call29 (by kernel_rfl)
    ⟨Nat.zero_le _, Nat.le_of_ble_eq_true rfl, rfl, rfl, right_meets am ae, (by rw [show rightB am ae = false by simpa using hr]; rfl), rfl, trivial⟩
    (.inl rfl) (by kernel_rfl) ⟨rfl, Avoid.tuple (AvoidL.cons (Avoid.str _ _) (AvoidL.cons (Avoid.int _ _ _) (AvoidL.nil _))), trivial⟩

def textR (m e : Int) : List UInt8 × Int := if rightB m e = true then (textB (decide (m < 0)) (digs 88 (aV m e)), 0) else ([], 10)
theorem text_meets (am ae : Int) : Meets Try.prog 29 [AV.agg [AV.int .i64 am, AV.int .i64 ae]] [] (AV.tuple [AV.str (textR am ae).1, AV.int .i64 (textR am ae).2]) [] := by
  by_cases hr : rightB am ae = true
  · have hb := right_bounds hr
    rw [textR, if_pos hr]
    exact text_ok am ae _ _ hr (digs_length _ _) (digs_dig _ _) (lay_meets am ae _ (by omega) (by omega) (digs_aV _ _))
  · rw [textR, if_neg hr]
    exact text_bad am ae hr

end Go.Proofs.Ytabgphldbgdbpaa
