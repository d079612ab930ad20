import Derived.Test.YtabgphldbgdbpaaDecR
set_option linter.unusedVariables false
set_option linter.unusedSimpArgs false
set_option maxRecDepth 20000
namespace Go.Proofs.Ytabgphldbgdbpaa
open Go Sx Dc

def bodyS (s : List UInt8) : List UInt8 := if minusB s = true then s.drop 1 else s
def wholeS (b : List UInt8) : List UInt8 := if 0 ≤ idx46 b then b.take (idx46 b).toNat else b
def partS (b : List UInt8) : List UInt8 := if 0 ≤ idx46 b then b.drop ((idx46 b).toNat + 1) else []
/-- A text's figures: so many noughts, its digits, and noughts. -/
def wrA (w : List UInt8) (k : Nat) : List Int := List.replicate (48 - w.length) 0 ++ (bytesD (w.take k) ++ List.replicate (40 + w.length - k) 0)
def wrB (w p : List UInt8) (k : Nat) : List Int := List.replicate (48 - w.length) 0 ++ (bytesD w ++ (bytesD (p.take k) ++ List.replicate (40 - k) 0))
theorem bytesD_length (s : List UInt8) : (bytesD s).length = s.length := by simp [bytesD]
theorem bytesD_dig {s : List UInt8} (h : ∀ b ∈ s, okDig b) : Dig (bytesD s) := by
  intro d hd
  obtain ⟨b, hb, rfl⟩ := List.mem_map.1 hd
  have := h b hb
  unfold okDig at this; omega
theorem bytesD_take_succ {s : List UInt8} {k : Nat} (h : k < s.length) : bytesD (s.take (k + 1)) = bytesD (s.take k) ++ [((s.getD k 0).toNat : Int) - 48] := by
  unfold bytesD
  rw [List.take_succ_eq_append_getElem h, List.map_append]
  simp [List.getD, h]
theorem wrA_length {w : List UInt8} {k : Nat} (hw : w.length ≤ 40) (hk : k ≤ w.length) : (wrA w k).length = 88 := by
  simp only [wrA, List.length_append, List.length_replicate, bytesD_length, List.length_take]; omega
theorem wrB_length {w p : List UInt8} {k : Nat} (hw : w.length ≤ 40) (hp : p.length ≤ 40) (hk : k ≤ p.length) : (wrB w p k).length = 88 := by
  simp only [wrB, List.length_append, List.length_replicate, bytesD_length, List.length_take]; omega
theorem wrA_zero (w : List UInt8) (hw : w.length ≤ 40) : wrA w 0 = List.replicate 88 0 := by
  simp only [wrA, List.take_zero, bytesD, List.map_nil, List.nil_append, List.replicate_append_replicate]
  congr 1; omega
theorem wrA_end (w p : List UInt8) : wrA w w.length = wrB w p 0 := by
  simp only [wrA, wrB, List.take_zero, List.take_length, bytesD, List.map_nil, List.nil_append]
  congr 3; omega
theorem set_next {pre xs : List Int} {m : Nat} (i : Nat) (d : Int) (hi : i = pre.length + xs.length) : (pre ++ (xs ++ List.replicate (m + 1) 0)).set i d = pre ++ ((xs ++ [d]) ++ List.replicate m 0) := by
  subst hi
  rw [List.set_append_right _ _ (by omega), show pre.length + xs.length - pre.length = xs.length by omega, List.set_append_right _ _ (by omega), Nat.sub_self, List.replicate_succ, List.set_cons_zero]
  simp
theorem wrA_step {w : List UInt8} {k : Nat} (hw : w.length ≤ 40) (hk : k < w.length) : (wrA w k).set (48 - w.length + k) (((w.getD k 0).toNat : Int) - 48) = wrA w (k + 1) := by
  unfold wrA
  rw [bytesD_take_succ hk, show 40 + w.length - k = (40 + w.length - (k + 1)) + 1 by omega]
  exact set_next _ _ (by simp [bytesD_length]; omega)
theorem wrB_step {w p : List UInt8} {k : Nat} (hw : w.length ≤ 40) (hp : p.length ≤ 40) (hk : k < p.length) : (wrB w p k).set (48 + k) (((p.getD k 0).toNat : Int) - 48) = wrB w p (k + 1) := by
  unfold wrB
  rw [bytesD_take_succ hk, show 40 - k = (40 - (k + 1)) + 1 by omega, ← List.append_assoc, ← List.append_assoc (List.replicate (48 - w.length) 0) (bytesD w)]
  exact set_next _ _ (by simp [bytesD_length]; omega)
/-- The number that a text is, times ten to 40, without its sign. -/
def wrV (w p : List UInt8) : Int := val (bytesD w) * 10 ^ 40 + val (bytesD p) * 10 ^ (40 - p.length)
theorem wrB_digs {w p : List UInt8} (hw : w.length ≤ 40) (hp : p.length ≤ 40) (gw : ∀ b ∈ w, okDig b) (gp : ∀ b ∈ p, okDig b) : wrB w p p.length = digs 88 (wrV w p) := by
  refine eq_digs ?_ (wrB_length hw hp (Nat.le_refl _)) ?_
  · unfold wrB
    rw [List.take_length]
    exact (dig_zeros _).append ((bytesD_dig gw).append ((bytesD_dig gp).append (dig_zeros _)))
  · unfold wrB wrV
    rw [List.take_length, val_append, val_append, val_append, val_zeros, val_zeros]
    simp only [List.length_append, bytesD_length, List.length_replicate, show p.length + (40 - p.length) = 40 by omega]
    omega
attribute [irreducible] wrA wrB

def wr_i1 (mx : Bool) (w p : List UInt8) (ds : List Int) (k : Nat) : AState :=
  ⟨[none, none, some (AV.ptr 0 0), none, none, none, some (AV.str w), some (AV.str p), none, some (AV.ptr 1 0), none, none, none, none, none, none, none, none, none, none, none, none, none, none, none, none, none, none, none, none, none, none, none, none, none, none, none, none, none, none, some (AV.vec 2 w.length), some (AV.int .i64 ((w.length : Nat) : Int)), some (AV.int .i64 ((k : Nat) : Int)), none, none, none, none, none, none, none, none, none, none, none, none, none, none, none, none, none, none, none, none, none, none, none, none, none, none, none, none, none, none], [some (AObj.cells ((AV.bool false) :: (ints .u8 (List.replicate 88 0))) 50), some (AObj.cells ((AV.bool mx) :: (ints .u8 ds)) 50), some (AObj.ro 0 (u8s w)), none]⟩

theorem wr_r1 (mx : Bool) (w p : List UInt8) (ds : List Int) (k : Nat) (hl : ds.length = 88) (hw : w.length ≤ 40) (h1 : k < w.length) (hd : okDig (w.getD k 0)) : Tri Try.prog (loopN (bodyOf Try.f31) 0) (wr_i1 mx w p ds k) .normal (wr_i1 mx w p (ds.set (48 - w.length + k) ((((w.getD k 0).toNat : Nat) : Int) - 48)) (k + 1)) := by
  unfold okDig at hd
  exact Tri.weak (ob := [AV.ptr 0 0 = AV.ptr 0 0,
        AV.str w = AV.str w,
        AV.str p = AV.str p,
        AV.ptr 1 0 = AV.ptr 1 0,
        AV.vec 2 w.length = AV.vec 2 w.length,
        AV.int .i64 ((w.length : Nat) : Int) = AV.int .i64 ((w.length : Nat) : Int),
        AV.int .i64 ((k + 1 : Nat) : Int) = AV.int .i64 ((k + 1 : Nat) : Int),
        AObj.cells ((AV.bool false) :: (ints .u8 (List.replicate 88 0))) 50 = AObj.cells ((AV.bool false) :: (ints .u8 (List.replicate 88 0))) 50,
        AObj.cells ((AV.bool mx) :: (ints .u8 (ds.set (48 - w.length + k) ((((w.getD k 0).toNat : Nat) : Int) - 48)))) 50 = AObj.cells ((AV.bool mx) :: (ints .u8 (ds.set (48 - w.length + k) ((((w.getD k 0).toNat : Nat) : Int) - 48)))) 50,
        AObj.ro 0 (u8s w) = AObj.ro 0 (u8s w)]) (exec_sound _ [.reg [(0, {val := some (AV.bool true)})], .reg [(1, {val := some (AV.ptr 2 k)}), (2, {val := some (AV.int .u8 (((w.getD k 0).toNat : Nat) : Int))})], .reg [(2, {val := some (AV.int .i64 (((48 - w.length) : Nat) : Int))}), (4, {val := some (AV.int .i64 (((48 - w.length + k) : Nat) : Int))}), (6, {val := some (AV.int .u8 ((((w.getD k 0).toNat : Nat) : Int) - 48))}), (8, {val := some (AV.ptr 1 ((48 - w.length + k) + 1))}), (9, {obj := some [AObj.cells ((AV.bool mx) :: (ints .u8 (ds.set (48 - w.length + k) ((((w.getD k 0).toNat : Nat) : Int) - 48)))) 50]})], .reg [(0, {val := some (AV.int .i64 ((k + 1 : Nat) : Int))})]] _
    ⟨[AV.bool (decide (((k : Nat) : Int) < ((w.length : Nat) : Int))) = AV.bool true,
        0 ≤ ((k : Nat) : Int),
        ((k : Nat) : Int) < ((w.length : Nat) : Int),
        AV.ptr 2 (Int.toNat ((k : Nat) : Int) * 1) = AV.ptr 2 k,
        0 ≤ k,
        (u8s w : List AV)[k - 0]? = some (AV.int .u8 (((w.getD k 0).toNat : Nat) : Int)),
        AV.int .i64 (IntKind.i64.wrap (48 - ((w.length : Nat) : Int))) = AV.int .i64 (((48 - w.length) : Nat) : Int),
        AV.int .i64 (IntKind.i64.wrap ((((48 - w.length) : Nat) : Int) + ((k : Nat) : Int))) = AV.int .i64 (((48 - w.length + k) : Nat) : Int),
        AV.int .u8 (IntKind.u8.wrap ((((w.getD k 0).toNat : Nat) : Int) - 48)) = AV.int .u8 ((((w.getD k 0).toNat : Nat) : Int) - 48),
        0 ≤ (((48 - w.length + k) : Nat) : Int),
        (((48 - w.length + k) : Nat) : Int) < ((88 : Nat) : Int),
        AV.ptr 1 (1 + Int.toNat (((48 - w.length + k) : Nat) : Int) * 1) = AV.ptr 1 ((48 - w.length + k) + 1),
        ([AV.int .u8 ((((w.getD k 0).toNat : Nat) : Int) - 48)] : List AV).length = 1,
        ((48 - w.length + k) + 1) + 1 ≤ List.length ((AV.bool mx) :: (ints .u8 ds)),
        AObj.cells (List.take ((48 - w.length + k) + 1) ((AV.bool mx) :: (ints .u8 ds)) ++ [AV.int .u8 ((((w.getD k 0).toNat : Nat) : Int) - 48)] ++ List.drop (((48 - w.length + k) + 1) + 1) ((AV.bool mx) :: (ints .u8 ds))) 50 = AObj.cells ((AV.bool mx) :: (ints .u8 (ds.set (48 - w.length + k) ((((w.getD k 0).toNat : Nat) : Int) - 48)))) 50,
        AV.int .i64 (IntKind.i64.wrap (((k : Nat) : Int) + 1)) = AV.int .i64 ((k + 1 : Nat) : Int)],
      .normal, ⟨[none, none, some (AV.ptr 0 0), none, none, none, some (AV.str w), some (AV.str p), none, some (AV.ptr 1 0), some (AV.int .i64 ((k : Nat) : Int)), some (AV.int .u8 (((w.getD k 0).toNat : Nat) : Int)), none, none, none, none, none, none, none, none, none, none, none, none, none, none, none, none, none, none, none, none, none, none, none, none, none, none, none, none, some (AV.vec 2 w.length), some (AV.int .i64 ((w.length : Nat) : Int)), some (AV.int .i64 ((k + 1 : Nat) : Int)), some (AV.bool true), some (AV.int .i64 ((k : Nat) : Int)), some (AV.ptr 2 k), some (AV.int .u8 (((w.getD k 0).toNat : Nat) : Int)), some (AV.str w), some (AV.int .i64 ((w.length : Nat) : Int)), some (AV.int .i64 (((48 - w.length) : Nat) : Int)), some (AV.int .i64 ((k : Nat) : Int)), some (AV.int .i64 (((48 - w.length + k) : Nat) : Int)), some (AV.int .u8 (((w.getD k 0).toNat : Nat) : Int)), some (AV.int .u8 ((((w.getD k 0).toNat : Nat) : Int) - 48)), some (AV.ptr 1 1), some (AV.ptr 1 ((48 - w.length + k) + 1)), some (AV.int .i64 ((k + 1 : Nat) : Int)), none, none, none, none, none, none, none, none, none, none, none, none, none, none, none, none], [some (AObj.cells ((AV.bool false) :: (ints .u8 (List.replicate 88 0))) 50), some (AObj.cells ((AV.bool mx) :: (ints .u8 (ds.set (48 - w.length + k) ((((w.getD k 0).toNat : Nat) : Int) - 48)))) 50), some (AObj.ro 0 (u8s w)), none]⟩, []⟩ (by kernel_rfl)
    ⟨bT (by omega), by omega, by omega, ptrE (by omega), Nat.zero_le _, u8s_get (by omega), wI (by omega), wI (by omega), w_u8 (by omega), by omega, by omega, ptrE (by omega), rfl, (by simp only [List.length_cons, List.length_nil, List.length_append, ints_length, u8s_length, List.length_replicate, List.length_set, List.length_map, digs_length] <;> omega), store_ints [AV.bool mx] (by omega), wI (by omega), trivial⟩) (by kernel_rfl)
    ⟨rfl, rfl, rfl, rfl, rfl, rfl, rfl, rfl, rfl, rfl, trivial⟩

def wr_o1 (mx : Bool) (w p : List UInt8) (ds : List Int) : AState :=
  ⟨[none, none, some (AV.ptr 0 0), none, none, none, some (AV.str w), some (AV.str p), none, some (AV.ptr 1 0), none, none, none, none, none, none, none, none, none, none, none, none, none, none, none, none, none, none, none, none, none, none, none, none, none, none, none, none, none, none, none, none, none, none, none, none, none, none, none, none, none, none, none, none, none, none, none, none, none, none, none, none, none, none, none, none, none, none, none, none, none, none, none], [some (AObj.cells ((AV.bool false) :: (ints .u8 (List.replicate 88 0))) 50), some (AObj.cells ((AV.bool mx) :: (ints .u8 ds)) 50), some (AObj.ro 0 (u8s w)), none]⟩

theorem wr_x1 (mx : Bool) (w p : List UInt8) (ds : List Int) (hw : w.length ≤ 40) : Tri Try.prog (loopN (bodyOf Try.f31) 0) (wr_i1 mx w p ds w.length) (.exit 0) (wr_o1 mx w p ds) := by
  exact Tri.weak (ob := [AV.ptr 0 0 = AV.ptr 0 0,
        AV.str w = AV.str w,
        AV.str p = AV.str p,
        AV.ptr 1 0 = AV.ptr 1 0,
        AObj.cells ((AV.bool false) :: (ints .u8 (List.replicate 88 0))) 50 = AObj.cells ((AV.bool false) :: (ints .u8 (List.replicate 88 0))) 50,
        AObj.cells ((AV.bool mx) :: (ints .u8 ds)) 50 = AObj.cells ((AV.bool mx) :: (ints .u8 ds)) 50,
        AObj.ro 0 (u8s w) = AObj.ro 0 (u8s w)]) (exec_sound _ [.reg [(0, {val := some (AV.bool false)})]] _
    ⟨[AV.bool (decide (((w.length : Nat) : Int) < ((w.length : Nat) : Int))) = AV.bool false],
      .exit 0, ⟨[none, none, some (AV.ptr 0 0), none, none, none, some (AV.str w), some (AV.str p), none, some (AV.ptr 1 0), none, none, none, none, none, none, none, none, none, none, none, none, none, none, none, none, none, none, none, none, none, none, none, none, none, none, none, none, none, none, some (AV.vec 2 w.length), some (AV.int .i64 ((w.length : Nat) : Int)), some (AV.int .i64 ((w.length : Nat) : Int)), some (AV.bool false), none, none, none, none, none, none, none, none, none, none, none, none, none, none, none, none, none, none, none, none, none, none, none, none, none, none, none, none, none], [some (AObj.cells ((AV.bool false) :: (ints .u8 (List.replicate 88 0))) 50), some (AObj.cells ((AV.bool mx) :: (ints .u8 ds)) 50), some (AObj.ro 0 (u8s w)), none]⟩, []⟩ (by kernel_rfl)
    ⟨bF (by omega), trivial⟩) (by kernel_rfl)
    ⟨rfl, rfl, rfl, rfl, rfl, rfl, rfl, trivial⟩

def wr_i2 (mx : Bool) (w p : List UInt8) (ds : List Int) (k : Nat) : AState :=
  ⟨[none, none, some (AV.ptr 0 0), none, none, none, none, none, none, some (AV.ptr 1 0), none, none, none, none, none, none, none, none, none, none, none, none, none, none, none, none, none, none, none, none, none, none, none, none, none, none, none, none, none, none, none, none, none, none, none, none, none, none, none, none, none, none, none, none, none, none, none, none, some (AV.vec 3 p.length), some (AV.int .i64 ((p.length : Nat) : Int)), some (AV.int .i64 ((k : Nat) : Int)), none, none, none, none, none, none, none, none, none, none, none, none], [some (AObj.cells ((AV.bool false) :: (ints .u8 (List.replicate 88 0))) 50), some (AObj.cells ((AV.bool mx) :: (ints .u8 ds)) 50), some (AObj.ro 0 (u8s w)), some (AObj.ro 0 (u8s p))]⟩

theorem wr_r2 (mx : Bool) (w p : List UInt8) (ds : List Int) (k : Nat) (hl : ds.length = 88) (hp : p.length ≤ 40) (h1 : k < p.length) (hd : okDig (p.getD k 0)) : Tri Try.prog (loopN (bodyOf Try.f31) 1) (wr_i2 mx w p ds k) .normal (wr_i2 mx w p (ds.set (48 + k) ((((p.getD k 0).toNat : Nat) : Int) - 48)) (k + 1)) := by
  unfold okDig at hd
  exact Tri.weak (ob := [AV.ptr 0 0 = AV.ptr 0 0,
        AV.ptr 1 0 = AV.ptr 1 0,
        AV.vec 3 p.length = AV.vec 3 p.length,
        AV.int .i64 ((p.length : Nat) : Int) = AV.int .i64 ((p.length : Nat) : Int),
        AV.int .i64 ((k + 1 : Nat) : Int) = AV.int .i64 ((k + 1 : Nat) : Int),
        AObj.cells ((AV.bool false) :: (ints .u8 (List.replicate 88 0))) 50 = AObj.cells ((AV.bool false) :: (ints .u8 (List.replicate 88 0))) 50,
        AObj.cells ((AV.bool mx) :: (ints .u8 (ds.set (48 + k) ((((p.getD k 0).toNat : Nat) : Int) - 48)))) 50 = AObj.cells ((AV.bool mx) :: (ints .u8 (ds.set (48 + k) ((((p.getD k 0).toNat : Nat) : Int) - 48)))) 50,
        AObj.ro 0 (u8s w) = AObj.ro 0 (u8s w),
        AObj.ro 0 (u8s p) = AObj.ro 0 (u8s p)]) (exec_sound _ [.reg [(0, {val := some (AV.bool true)})], .reg [(1, {val := some (AV.ptr 3 k)}), (2, {val := some (AV.int .u8 (((p.getD k 0).toNat : Nat) : Int))})], .reg [(1, {val := some (AV.int .i64 (((48 + k) : Nat) : Int))}), (3, {val := some (AV.int .u8 ((((p.getD k 0).toNat : Nat) : Int) - 48))}), (5, {val := some (AV.ptr 1 ((48 + k) + 1))}), (6, {obj := some [AObj.cells ((AV.bool mx) :: (ints .u8 (ds.set (48 + k) ((((p.getD k 0).toNat : Nat) : Int) - 48)))) 50]})], .reg [(0, {val := some (AV.int .i64 ((k + 1 : Nat) : Int))})]] _
    ⟨[AV.bool (decide (((k : Nat) : Int) < ((p.length : Nat) : Int))) = AV.bool true,
        0 ≤ ((k : Nat) : Int),
        ((k : Nat) : Int) < ((p.length : Nat) : Int),
        AV.ptr 3 (Int.toNat ((k : Nat) : Int) * 1) = AV.ptr 3 k,
        0 ≤ k,
        (u8s p : List AV)[k - 0]? = some (AV.int .u8 (((p.getD k 0).toNat : Nat) : Int)),
        AV.int .i64 (IntKind.i64.wrap (48 + ((k : Nat) : Int))) = AV.int .i64 (((48 + k) : Nat) : Int),
        AV.int .u8 (IntKind.u8.wrap ((((p.getD k 0).toNat : Nat) : Int) - 48)) = AV.int .u8 ((((p.getD k 0).toNat : Nat) : Int) - 48),
        0 ≤ (((48 + k) : Nat) : Int),
        (((48 + k) : Nat) : Int) < ((88 : Nat) : Int),
        AV.ptr 1 (1 + Int.toNat (((48 + k) : Nat) : Int) * 1) = AV.ptr 1 ((48 + k) + 1),
        ([AV.int .u8 ((((p.getD k 0).toNat : Nat) : Int) - 48)] : List AV).length = 1,
        ((48 + k) + 1) + 1 ≤ List.length ((AV.bool mx) :: (ints .u8 ds)),
        AObj.cells (List.take ((48 + k) + 1) ((AV.bool mx) :: (ints .u8 ds)) ++ [AV.int .u8 ((((p.getD k 0).toNat : Nat) : Int) - 48)] ++ List.drop (((48 + k) + 1) + 1) ((AV.bool mx) :: (ints .u8 ds))) 50 = AObj.cells ((AV.bool mx) :: (ints .u8 (ds.set (48 + k) ((((p.getD k 0).toNat : Nat) : Int) - 48)))) 50,
        AV.int .i64 (IntKind.i64.wrap (((k : Nat) : Int) + 1)) = AV.int .i64 ((k + 1 : Nat) : Int)],
      .normal, ⟨[none, none, some (AV.ptr 0 0), none, none, none, none, none, none, some (AV.ptr 1 0), none, none, some (AV.int .i64 ((k : Nat) : Int)), some (AV.int .u8 (((p.getD k 0).toNat : Nat) : Int)), none, none, none, none, none, none, none, none, none, none, none, none, none, none, none, none, none, none, none, none, none, none, none, none, none, none, none, none, none, none, none, none, none, none, none, none, none, none, none, none, none, none, none, none, some (AV.vec 3 p.length), some (AV.int .i64 ((p.length : Nat) : Int)), some (AV.int .i64 ((k + 1 : Nat) : Int)), some (AV.bool true), some (AV.int .i64 ((k : Nat) : Int)), some (AV.ptr 3 k), some (AV.int .u8 (((p.getD k 0).toNat : Nat) : Int)), some (AV.int .i64 ((k : Nat) : Int)), some (AV.int .i64 (((48 + k) : Nat) : Int)), some (AV.int .u8 (((p.getD k 0).toNat : Nat) : Int)), some (AV.int .u8 ((((p.getD k 0).toNat : Nat) : Int) - 48)), some (AV.ptr 1 1), some (AV.ptr 1 ((48 + k) + 1)), some (AV.int .i64 ((k + 1 : Nat) : Int)), none], [some (AObj.cells ((AV.bool false) :: (ints .u8 (List.replicate 88 0))) 50), some (AObj.cells ((AV.bool mx) :: (ints .u8 (ds.set (48 + k) ((((p.getD k 0).toNat : Nat) : Int) - 48)))) 50), some (AObj.ro 0 (u8s w)), some (AObj.ro 0 (u8s p))]⟩, []⟩ (by kernel_rfl)
    ⟨bT (by omega), by omega, by omega, ptrE (by omega), Nat.zero_le _, u8s_get (by omega), wI (by omega), w_u8 (by omega), by omega, by omega, ptrE (by omega), rfl, (by simp only [List.length_cons, List.length_nil, List.length_append, ints_length, u8s_length, List.length_replicate, List.length_set, List.length_map, digs_length] <;> omega), store_ints [AV.bool mx] (by omega), wI (by omega), trivial⟩) (by kernel_rfl)
    ⟨rfl, rfl, rfl, rfl, rfl, rfl, rfl, rfl, rfl, trivial⟩

def wr_o2 (mx : Bool) (w p : List UInt8) (ds : List Int) : AState :=
  ⟨[none, none, some (AV.ptr 0 0), none, none, none, none, none, none, some (AV.ptr 1 0), none, none, none, none, none, none, none, none, none, none, none, none, none, none, none, none, none, none, none, none, none, none, none, none, none, none, none, none, none, none, none, none, none, none, none, none, none, none, none, none, none, none, none, none, none, none, none, none, none, none, none, none, none, none, none, none, none, none, none, none, none, none, none], [some (AObj.cells ((AV.bool false) :: (ints .u8 (List.replicate 88 0))) 50), some (AObj.cells ((AV.bool mx) :: (ints .u8 ds)) 50), some (AObj.ro 0 (u8s w)), some (AObj.ro 0 (u8s p))]⟩

theorem wr_x2 (mx : Bool) (w p : List UInt8) (ds : List Int) (hp : p.length ≤ 40) : Tri Try.prog (loopN (bodyOf Try.f31) 1) (wr_i2 mx w p ds p.length) (.exit 2) (wr_o2 mx w p ds) := by
  exact Tri.weak (ob := [AV.ptr 0 0 = AV.ptr 0 0,
        AV.ptr 1 0 = AV.ptr 1 0,
        AObj.cells ((AV.bool false) :: (ints .u8 (List.replicate 88 0))) 50 = AObj.cells ((AV.bool false) :: (ints .u8 (List.replicate 88 0))) 50,
        AObj.cells ((AV.bool mx) :: (ints .u8 ds)) 50 = AObj.cells ((AV.bool mx) :: (ints .u8 ds)) 50,
        AObj.ro 0 (u8s w) = AObj.ro 0 (u8s w),
        AObj.ro 0 (u8s p) = AObj.ro 0 (u8s p)]) (exec_sound _ [.reg [(0, {val := some (AV.bool false)})]] _
    ⟨[AV.bool (decide (((p.length : Nat) : Int) < ((p.length : Nat) : Int))) = AV.bool false],
      .exit 2, ⟨[none, none, some (AV.ptr 0 0), none, none, none, none, none, none, some (AV.ptr 1 0), none, none, none, none, none, none, none, none, none, none, none, none, none, none, none, none, none, none, none, none, none, none, none, none, none, none, none, none, none, none, none, none, none, none, none, none, none, none, none, none, none, none, none, none, none, none, none, none, some (AV.vec 3 p.length), some (AV.int .i64 ((p.length : Nat) : Int)), some (AV.int .i64 ((p.length : Nat) : Int)), some (AV.bool false), none, none, none, none, none, none, none, none, none, none, none], [some (AObj.cells ((AV.bool false) :: (ints .u8 (List.replicate 88 0))) 50), some (AObj.cells ((AV.bool mx) :: (ints .u8 ds)) 50), some (AObj.ro 0 (u8s w)), some (AObj.ro 0 (u8s p))]⟩, []⟩ (by kernel_rfl)
    ⟨bF (by omega), trivial⟩) (by kernel_rfl)
    ⟨rfl, rfl, rfl, rfl, rfl, rfl, trivial⟩

theorem wr_l1 (mx : Bool) (w p : List UInt8) (hw : w.length ≤ 40) (gw : ∀ b ∈ w, okDig b) : Tri Try.prog (.loop (loopN (bodyOf Try.f31) 0)) (wr_i1 mx w p (wrA w 0) 0) (.exit 0) (wr_o1 mx w p (wrA w w.length)) :=
  tri_up (fun k => wr_i1 mx w p (wrA w k) k) (ne_normal_exit 0) w.length (fun k hk => by
    have h := wr_r1 mx w p (wrA w k) k (wrA_length hw (by omega)) hw hk (gw _ (getD_mem hk))
    rw [wrA_step hw hk] at h
    exact h) (wr_x1 mx w p _ hw) 0 (Nat.zero_le _)
theorem wr_l2 (mx : Bool) (w p : List UInt8) (hw : w.length ≤ 40) (hp : p.length ≤ 40) (gp : ∀ b ∈ p, okDig b) : Tri Try.prog (.loop (loopN (bodyOf Try.f31) 1)) (wr_i2 mx w p (wrB w p 0) 0) (.exit 2) (wr_o2 mx w p (wrB w p p.length)) :=
  tri_up (fun k => wr_i2 mx w p (wrB w p k) k) (ne_normal_exit 2) p.length (fun k hk => by
    have h := wr_r2 mx w p (wrB w p k) k (wrB_length hw hp (by omega)) hp hk (gp _ (getD_mem hk))
    rw [wrB_step hw hp hk] at h
    exact h) (wr_x2 mx w p _ hp) 0 (Nat.zero_le _)
theorem isDigs_spec {s : List UInt8} (h : isDigs s = true) : s ≠ [] ∧ s.length ≤ 40 ∧ ∀ b ∈ s, okDig b := by simpa only [isDigs, decide_eq_true_eq] using h

theorem written_ok (s b w p : List UInt8) (mx pt : Bool) (hs : s.length < 1000000) (hbl : b.length < 1000000) (hwn : w.length < 1000000) (hpn : p.length < 1000000) (hmx : minusB s = mx) (hb : bodyS s = b) (hw : wholeS b = w) (hp : partS b = p) (hpt : decide (0 ≤ idx46 b) = pt) (hpe : pt = false → p = []) (h1 : isDigs w = true) (h2 : pt = true → isDigs p = true) : Meets Try.prog 31 [AV.str s] [] (AV.tuple [AV.agg ((AV.bool mx) :: (ints .u8 (digs 88 (wrV w p)))), AV.bool true]) [] := by
  have hwl := (isDigs_spec h1).2.1
  have gw := (isDigs_spec h1).2.2
  have gp : ∀ b ∈ p, okDig b := by
    cases hq : pt with
    | true => exact (isDigs_spec (h2 hq)).2.2
    | false => rw [hpe hq]; intro b hb; cases hb
  have hpl : p.length ≤ 40 := by
    cases hq : pt with
    | true => exact (isDigs_spec (h2 hq)).2.1
    | false => rw [hpe hq]; decide
  have e1 := wrB_digs hwl hpl gw gp
  have len1 := wrA_length hwl (Nat.le_refl _)
  have len2 := wrB_length hwl hpl (Nat.le_refl _)
  by_cases c1 : pt = true
  · exact meets_of_exec (fn := Try.f31) 4 [.reg [(0, {nm := [0], obj := some [AObj.cells ((AV.bool false) :: (ints .u8 (List.replicate 88 0))) 50]})], .reg [(1, {call := some ⟨[], [AV.str s, AV.str [45]], [], AV.tuple [AV.str (if minusB s = true then s.drop 1 else s), AV.bool (minusB s)], []⟩, val := some (AV.tuple [AV.str b, AV.bool mx])})], .reg [(1, {call := some ⟨[], [AV.str b, AV.str [46]], [], AV.tuple [AV.str (if 0 ≤ idx46 b then b.take (idx46 b).toNat else b), AV.str (if 0 ≤ idx46 b then b.drop ((idx46 b).toNat + 1) else []), AV.bool (decide (0 ≤ idx46 b))], []⟩, val := some (AV.tuple [AV.str w, AV.str p, AV.bool true])})], .reg [(1, {call := some ⟨[], [AV.str w], [], AV.bool (isDigs w), []⟩, val := some (AV.bool true)}), (2, {val := some (AV.bool false)}), (7, {call := some ⟨[], [AV.str p], [], AV.bool (isDigs p), []⟩, val := some (AV.bool true)}), (8, {val := some (AV.bool false)})], .reg [(1, {val := some (AV.agg ((AV.bool mx) :: (ints .u8 (List.replicate 88 0))))}), (2, {nm := [1], obj := some [AObj.cells ((AV.bool false) :: (ints .u8 (List.replicate 88 0))) 50]}), (3, {obj := some [AObj.cells ((AV.bool mx) :: (ints .u8 (List.replicate 88 0))) 50]})], .reg [(1, {nm := [2]})], .loop (⟨[none, none, some (AV.ptr 0 0), none, none, none, some (AV.str w), some (AV.str p), none, some (AV.ptr 1 0), none, none, none, none, none, none, none, none, none, none, none, none, none, none, none, none, none, none, none, none, none, none, none, none, none, none, none, none, none, none, some (AV.vec 2 w.length), some (AV.int .i64 ((w.length : Nat) : Int)), some (AV.int .i64 0), none, none, none, none, none, none, none, none, none, none, none, none, none, none, none, none, none, none, none, none, none, none, none, none, none, none, none, none, none, none], [some (AObj.cells ((AV.bool false) :: (ints .u8 (List.replicate 88 0))) 50), some (AObj.cells ((AV.bool mx) :: (ints .u8 (wrA w 0))) 50), some (AObj.ro 0 (u8s w)), none]⟩) (.exit 0) (⟨[none, none, some (AV.ptr 0 0), none, none, none, some (AV.str w), some (AV.str p), none, some (AV.ptr 1 0), none, none, none, none, none, none, none, none, none, none, none, none, none, none, none, none, none, none, none, none, none, none, none, none, none, none, none, none, none, none, none, none, none, none, none, none, none, none, none, none, none, none, none, none, none, none, none, none, none, none, none, none, none, none, none, none, none, none, none, none, none, none, none], [some (AObj.cells ((AV.bool false) :: (ints .u8 (List.replicate 88 0))) 50), some (AObj.cells ((AV.bool mx) :: (ints .u8 (wrA w w.length))) 50), some (AObj.ro 0 (u8s w)), none]⟩), .reg [(1, {nm := [3]})], .loop (⟨[none, none, some (AV.ptr 0 0), none, none, none, none, none, none, some (AV.ptr 1 0), none, none, none, none, none, none, none, none, none, none, none, none, none, none, none, none, none, none, none, none, none, none, none, none, none, none, none, none, none, none, none, none, none, none, none, none, none, none, none, none, none, none, none, none, none, none, none, none, some (AV.vec 3 p.length), some (AV.int .i64 ((p.length : Nat) : Int)), some (AV.int .i64 0), none, none, none, none, none, none, none, none, none, none, none, none], [some (AObj.cells ((AV.bool false) :: (ints .u8 (List.replicate 88 0))) 50), some (AObj.cells ((AV.bool mx) :: (ints .u8 (wrB w p 0))) 50), some (AObj.ro 0 (u8s w)), some (AObj.ro 0 (u8s p))]⟩) (.exit 2) (⟨[none, none, some (AV.ptr 0 0), none, none, none, none, none, none, some (AV.ptr 1 0), none, none, none, none, none, none, none, none, none, none, none, none, none, none, none, none, none, none, none, none, none, none, none, none, none, none, none, none, none, none, none, none, none, none, none, none, none, none, none, none, none, none, none, none, none, none, none, none, none, none, none, none, none, none, none, none, none, none, none, none, none, none, none], [some (AObj.cells ((AV.bool false) :: (ints .u8 (List.replicate 88 0))) 50), some (AObj.cells ((AV.bool mx) :: (ints .u8 (wrB w p p.length))) 50), some (AObj.ro 0 (u8s w)), some (AObj.ro 0 (u8s p))]⟩), .reg [(0, {val := some (AV.agg ((AV.bool mx) :: (ints .u8 (wrB w p p.length))))}), (1, {obj := some [AObj.cells ((AV.bool mx) :: (ints .u8 (wrB w p p.length))) 50]})]] [{val := some (AV.agg ((AV.bool mx) :: (ints .u8 (wrB w p p.length))))}, {}]
      (r := ⟨[AObj.cells (zeroCellsA Try.prog 50) 50 = AObj.cells ((AV.bool false) :: (ints .u8 (List.replicate 88 0))) 50,
          [AV.str s, AV.str [45]] = renL [] [AV.str s, AV.str [45]],
          Meets Try.prog 63 [AV.str s, AV.str [45]] [] (AV.tuple [AV.str (if minusB s = true then s.drop 1 else s), AV.bool (minusB s)]) [],
          AV.ren [] (AV.tuple [AV.str (if minusB s = true then s.drop 1 else s), AV.bool (minusB s)]) = AV.tuple [AV.str b, AV.bool mx],
          [AV.str b, AV.str [46]] = renL [] [AV.str b, AV.str [46]],
          Meets Try.prog 64 [AV.str b, AV.str [46]] [] (AV.tuple [AV.str (if 0 ≤ idx46 b then b.take (idx46 b).toNat else b), AV.str (if 0 ≤ idx46 b then b.drop ((idx46 b).toNat + 1) else []), AV.bool (decide (0 ≤ idx46 b))]) [],
          AV.ren [] (AV.tuple [AV.str (if 0 ≤ idx46 b then b.take (idx46 b).toNat else b), AV.str (if 0 ≤ idx46 b then b.drop ((idx46 b).toNat + 1) else []), AV.bool (decide (0 ≤ idx46 b))]) = AV.tuple [AV.str w, AV.str p, AV.bool true],
          [AV.str w] = renL [] [AV.str w],
          Meets Try.prog 65 [AV.str w] [] (AV.bool (isDigs w)) [],
          AV.ren [] (AV.bool (isDigs w)) = AV.bool true,
          AV.bool (!true) = AV.bool false,
          [AV.str p] = renL [] [AV.str p],
          Meets Try.prog 65 [AV.str p] [] (AV.bool (isDigs p)) [],
          AV.ren [] (AV.bool (isDigs p)) = AV.bool true,
          AV.bool (!true) = AV.bool false,
          ([AV.bool mx] : List AV).length = 1,
          0 + 1 ≤ ((zeroCellsA Try.prog 50) : List AV).length,
          AV.agg (List.take 0 (zeroCellsA Try.prog 50) ++ [AV.bool mx] ++ List.drop 1 (zeroCellsA Try.prog 50)) = AV.agg ((AV.bool mx) :: (ints .u8 (List.replicate 88 0))),
          AObj.cells (zeroCellsA Try.prog 50) 50 = AObj.cells ((AV.bool false) :: (ints .u8 (List.replicate 88 0))) 50,
          ((AV.bool mx) :: (ints .u8 (List.replicate 88 0)) : List AV).length = 89,
          0 + 89 ≤ List.length ((AV.bool false) :: (ints .u8 (List.replicate 88 0))),
          AObj.cells (List.take 0 ((AV.bool false) :: (ints .u8 (List.replicate 88 0))) ++ ((AV.bool mx) :: (ints .u8 (List.replicate 88 0))) ++ List.drop (0 + 89) ((AV.bool false) :: (ints .u8 (List.replicate 88 0)))) 50 = AObj.cells ((AV.bool mx) :: (ints .u8 (List.replicate 88 0))) 50,
          AV.ptr 0 0 = AV.ptr 0 0,
          AV.str w = AV.str w,
          AV.str p = AV.str p,
          AV.ptr 1 0 = AV.ptr 1 0,
          AV.vec 2 w.length = AV.vec 2 w.length,
          AV.int .i64 ((w.length : Nat) : Int) = AV.int .i64 ((w.length : Nat) : Int),
          AV.int .i64 0 = AV.int .i64 0,
          AObj.cells ((AV.bool false) :: (ints .u8 (List.replicate 88 0))) 50 = AObj.cells ((AV.bool false) :: (ints .u8 (List.replicate 88 0))) 50,
          AObj.cells ((AV.bool mx) :: (ints .u8 (List.replicate 88 0))) 50 = AObj.cells ((AV.bool mx) :: (ints .u8 (wrA w 0))) 50,
          AObj.ro 0 (u8s w) = AObj.ro 0 (u8s w),
          Tri Try.prog (.loop (loopN (bodyOf Try.f31) 0)) (⟨[none, none, some (AV.ptr 0 0), none, none, none, some (AV.str w), some (AV.str p), none, some (AV.ptr 1 0), none, none, none, none, none, none, none, none, none, none, none, none, none, none, none, none, none, none, none, none, none, none, none, none, none, none, none, none, none, none, some (AV.vec 2 w.length), some (AV.int .i64 ((w.length : Nat) : Int)), some (AV.int .i64 0), none, none, none, none, none, none, none, none, none, none, none, none, none, none, none, none, none, none, none, none, none, none, none, none, none, none, none, none, none, none], [some (AObj.cells ((AV.bool false) :: (ints .u8 (List.replicate 88 0))) 50), some (AObj.cells ((AV.bool mx) :: (ints .u8 (wrA w 0))) 50), some (AObj.ro 0 (u8s w)), none]⟩) (.exit 0) (⟨[none, none, some (AV.ptr 0 0), none, none, none, some (AV.str w), some (AV.str p), none, some (AV.ptr 1 0), none, none, none, none, none, none, none, none, none, none, none, none, none, none, none, none, none, none, none, none, none, none, none, none, none, none, none, none, none, none, none, none, none, none, none, none, none, none, none, none, none, none, none, none, none, none, none, none, none, none, none, none, none, none, none, none, none, none, none, none, none, none, none], [some (AObj.cells ((AV.bool false) :: (ints .u8 (List.replicate 88 0))) 50), some (AObj.cells ((AV.bool mx) :: (ints .u8 (wrA w w.length))) 50), some (AObj.ro 0 (u8s w)), none]⟩),
          AV.ptr 0 0 = AV.ptr 0 0,
          AV.ptr 1 0 = AV.ptr 1 0,
          AV.vec 3 p.length = AV.vec 3 p.length,
          AV.int .i64 ((p.length : Nat) : Int) = AV.int .i64 ((p.length : Nat) : Int),
          AV.int .i64 0 = AV.int .i64 0,
          AObj.cells ((AV.bool false) :: (ints .u8 (List.replicate 88 0))) 50 = AObj.cells ((AV.bool false) :: (ints .u8 (List.replicate 88 0))) 50,
          AObj.cells ((AV.bool mx) :: (ints .u8 (wrA w w.length))) 50 = AObj.cells ((AV.bool mx) :: (ints .u8 (wrB w p 0))) 50,
          AObj.ro 0 (u8s w) = AObj.ro 0 (u8s w),
          AObj.ro 0 (u8s p) = AObj.ro 0 (u8s p),
          Tri Try.prog (.loop (loopN (bodyOf Try.f31) 1)) (⟨[none, none, some (AV.ptr 0 0), none, none, none, none, none, none, some (AV.ptr 1 0), none, none, none, none, none, none, none, none, none, none, none, none, none, none, none, none, none, none, none, none, none, none, none, none, none, none, none, none, none, none, none, none, none, none, none, none, none, none, none, none, none, none, none, none, none, none, none, none, some (AV.vec 3 p.length), some (AV.int .i64 ((p.length : Nat) : Int)), some (AV.int .i64 0), none, none, none, none, none, none, none, none, none, none, none, none], [some (AObj.cells ((AV.bool false) :: (ints .u8 (List.replicate 88 0))) 50), some (AObj.cells ((AV.bool mx) :: (ints .u8 (wrB w p 0))) 50), some (AObj.ro 0 (u8s w)), some (AObj.ro 0 (u8s p))]⟩) (.exit 2) (⟨[none, none, some (AV.ptr 0 0), none, none, none, none, none, none, some (AV.ptr 1 0), none, none, none, none, none, none, none, none, none, none, none, none, none, none, none, none, none, none, none, none, none, none, none, none, none, none, none, none, none, none, none, none, none, none, none, none, none, none, none, none, none, none, none, none, none, none, none, none, none, none, none, none, none, none, none, none, none, none, none, none, none, none, none], [some (AObj.cells ((AV.bool false) :: (ints .u8 (List.replicate 88 0))) 50), some (AObj.cells ((AV.bool mx) :: (ints .u8 (wrB w p p.length))) 50), some (AObj.ro 0 (u8s w)), some (AObj.ro 0 (u8s p))]⟩),
          0 ≤ 0,
          0 - 0 + 89 ≤ List.length ((AV.bool mx) :: (ints .u8 (wrB w p p.length))),
          List.take 89 (List.drop (0 - 0) ((AV.bool mx) :: (ints .u8 (wrB w p p.length)))) = (AV.bool mx) :: (ints .u8 (wrB w p p.length)),
          ((AV.bool mx) :: (ints .u8 (wrB w p p.length)) : List AV).length = 89,
          0 + 89 ≤ List.length ((AV.bool false) :: (ints .u8 (List.replicate 88 0))),
          AObj.cells (List.take 0 ((AV.bool false) :: (ints .u8 (List.replicate 88 0))) ++ ((AV.bool mx) :: (ints .u8 (wrB w p p.length))) ++ List.drop (0 + 89) ((AV.bool false) :: (ints .u8 (List.replicate 88 0)))) 50 = AObj.cells ((AV.bool mx) :: (ints .u8 (wrB w p p.length))) 50],
        .ret, ⟨[none, none, some (AV.ptr 0 0), some (AV.bool true), none, none, none, none, none, some (AV.ptr 1 0), none, none, none, none, none, none, none, none, none, none, none, none, none, none, none, none, none, none, none, none, none, none, none, none, none, none, none, none, none, none, none, none, none, none, none, none, none, none, none, none, none, none, none, none, none, none, none, none, none, none, none, none, none, none, none, none, none, none, none, none, none, none, some (AV.agg ((AV.bool mx) :: (ints .u8 (wrB w p p.length))))], [some (AObj.cells ((AV.bool mx) :: (ints .u8 (wrB w p p.length))) 50), some (AObj.cells ((AV.bool mx) :: (ints .u8 (wrB w p p.length))) 50), some (AObj.ro 0 (u8s w)), some (AObj.ro 0 (u8s p))]⟩, []⟩)
      (ob := [0 ≤ 0,
          0 - 0 + 89 ≤ List.length ((AV.bool mx) :: (ints .u8 (wrB w p p.length))),
          List.take 89 (List.drop (0 - 0) ((AV.bool mx) :: (ints .u8 (wrB w p p.length)))) = (AV.bool mx) :: (ints .u8 (wrB w p p.length)),
          AV.tuple [AV.agg ((AV.bool mx) :: (ints .u8 (wrB w p p.length))), AV.bool true] = AV.tuple [AV.agg ((AV.bool mx) :: (ints .u8 (digs 88 (wrV w p)))), AV.bool true],
          Avoid (fun n => decide (0 ≤ n)) (AV.tuple [AV.agg ((AV.bool mx) :: (ints .u8 (digs 88 (wrV w p)))), AV.bool true])])
      Try.func31 (by kernel_rfl) Try.call31 (by kernel_rfl)
      ⟨by kernel_rfl, rfl, cutPrefix_meets s, (by rw [← hb, ← hmx]; rfl), rfl, cut_meets b hbl, (by rw [show decide (0 ≤ idx46 b) = true by rw [hpt]; simpa using c1, ← hw, ← hp]; rfl), rfl, areDigits_meets w (by omega), boolT h1, rfl, rfl, areDigits_meets p (by omega), boolT (h2 c1), rfl, rfl, Nat.le_of_ble_eq_true (by kernel_rfl), by kernel_rfl, by kernel_rfl, (by simp only [List.length_cons, List.length_nil, List.length_append, ints_length, u8s_length, List.length_replicate, List.length_set, List.length_map, digs_length] <;> omega), (by simp only [List.length_cons, List.length_nil, List.length_append, ints_length, u8s_length, List.length_replicate, List.length_set, List.length_map, digs_length] <;> omega), store_whole (by simp only [List.length_cons, List.length_nil, List.length_append, ints_length, u8s_length, List.length_replicate, List.length_set, List.length_map, digs_length] <;> omega), rfl, rfl, rfl, rfl, rfl, rfl, rfl, rfl, by rw [wrA_zero w hwl], rfl, wr_l1 mx w p hwl gw, rfl, rfl, rfl, rfl, rfl, rfl, by rw [wrA_end w p], rfl, rfl, wr_l2 mx w p hwl hpl gp, Nat.zero_le _, (by simp only [List.length_cons, List.length_nil, List.length_append, ints_length, u8s_length, List.length_replicate, List.length_set, List.length_map, digs_length] <;> omega), whole_cells (by simp only [List.length_cons, List.length_nil, List.length_append, ints_length, u8s_length, List.length_replicate, List.length_set, List.length_map, digs_length] <;> omega), (by simp only [List.length_cons, List.length_nil, List.length_append, ints_length, u8s_length, List.length_replicate, List.length_set, List.length_map, digs_length] <;> omega), (by simp only [List.length_cons, List.length_nil, List.length_append, ints_length, u8s_length, List.length_replicate, List.length_set, List.length_map, digs_length] <;> omega), store_whole (by simp only [List.length_cons, List.length_nil, List.length_append, ints_length, u8s_length, List.length_replicate, List.length_set, List.length_map, digs_length] <;> omega), trivial⟩
      (.inl rfl) (by kernel_rfl) ⟨Nat.zero_le _, (by simp only [List.length_cons, List.length_nil, List.length_append, ints_length, u8s_length, List.length_replicate, List.length_set, List.length_map, digs_length] <;> omega), whole_cells (by simp only [List.length_cons, List.length_nil, List.length_append, ints_length, u8s_length, List.length_replicate, List.length_set, List.length_map, digs_length] <;> omega), by rw [e1], Avoid.tuple (AvoidL.cons (Avoid.agg (AvoidL.cons (Avoid.bool _ _) (AvoidL.ints _ _ _))) (AvoidL.cons (Avoid.bool _ _) (AvoidL.nil _))), trivial⟩
  · exact meets_of_exec (fn := Try.f31) 4 [.reg [(0, {nm := [0], obj := some [AObj.cells ((AV.bool false) :: (ints .u8 (List.replicate 88 0))) 50]})], .reg [(1, {call := some ⟨[], [AV.str s, AV.str [45]], [], AV.tuple [AV.str (if minusB s = true then s.drop 1 else s), AV.bool (minusB s)], []⟩, val := some (AV.tuple [AV.str b, AV.bool mx])})], .reg [(1, {call := some ⟨[], [AV.str b, AV.str [46]], [], AV.tuple [AV.str (if 0 ≤ idx46 b then b.take (idx46 b).toNat else b), AV.str (if 0 ≤ idx46 b then b.drop ((idx46 b).toNat + 1) else []), AV.bool (decide (0 ≤ idx46 b))], []⟩, val := some (AV.tuple [AV.str w, AV.str p, AV.bool false])})], .reg [(1, {call := some ⟨[], [AV.str w], [], AV.bool (isDigs w), []⟩, val := some (AV.bool true)}), (2, {val := some (AV.bool false)})], .reg [(1, {val := some (AV.agg ((AV.bool mx) :: (ints .u8 (List.replicate 88 0))))}), (2, {nm := [1], obj := some [AObj.cells ((AV.bool false) :: (ints .u8 (List.replicate 88 0))) 50]}), (3, {obj := some [AObj.cells ((AV.bool mx) :: (ints .u8 (List.replicate 88 0))) 50]})], .reg [(1, {nm := [2]})], .loop (⟨[none, none, some (AV.ptr 0 0), none, none, none, some (AV.str w), some (AV.str p), none, some (AV.ptr 1 0), none, none, none, none, none, none, none, none, none, none, none, none, none, none, none, none, none, none, none, none, none, none, none, none, none, none, none, none, none, none, some (AV.vec 2 w.length), some (AV.int .i64 ((w.length : Nat) : Int)), some (AV.int .i64 0), none, none, none, none, none, none, none, none, none, none, none, none, none, none, none, none, none, none, none, none, none, none, none, none, none, none, none, none, none, none], [some (AObj.cells ((AV.bool false) :: (ints .u8 (List.replicate 88 0))) 50), some (AObj.cells ((AV.bool mx) :: (ints .u8 (wrA w 0))) 50), some (AObj.ro 0 (u8s w)), none]⟩) (.exit 0) (⟨[none, none, some (AV.ptr 0 0), none, none, none, some (AV.str w), some (AV.str p), none, some (AV.ptr 1 0), none, none, none, none, none, none, none, none, none, none, none, none, none, none, none, none, none, none, none, none, none, none, none, none, none, none, none, none, none, none, none, none, none, none, none, none, none, none, none, none, none, none, none, none, none, none, none, none, none, none, none, none, none, none, none, none, none, none, none, none, none, none, none], [some (AObj.cells ((AV.bool false) :: (ints .u8 (List.replicate 88 0))) 50), some (AObj.cells ((AV.bool mx) :: (ints .u8 (wrA w w.length))) 50), some (AObj.ro 0 (u8s w)), none]⟩), .reg [(1, {nm := [3]})], .loop (⟨[none, none, some (AV.ptr 0 0), none, none, none, none, none, none, some (AV.ptr 1 0), none, none, none, none, none, none, none, none, none, none, none, none, none, none, none, none, none, none, none, none, none, none, none, none, none, none, none, none, none, none, none, none, none, none, none, none, none, none, none, none, none, none, none, none, none, none, none, none, some (AV.vec 3 p.length), some (AV.int .i64 ((p.length : Nat) : Int)), some (AV.int .i64 0), none, none, none, none, none, none, none, none, none, none, none, none], [some (AObj.cells ((AV.bool false) :: (ints .u8 (List.replicate 88 0))) 50), some (AObj.cells ((AV.bool mx) :: (ints .u8 (wrB w p 0))) 50), some (AObj.ro 0 (u8s w)), some (AObj.ro 0 (u8s p))]⟩) (.exit 2) (⟨[none, none, some (AV.ptr 0 0), none, none, none, none, none, none, some (AV.ptr 1 0), none, none, none, none, none, none, none, none, none, none, none, none, none, none, none, none, none, none, none, none, none, none, none, none, none, none, none, none, none, none, none, none, none, none, none, none, none, none, none, none, none, none, none, none, none, none, none, none, none, none, none, none, none, none, none, none, none, none, none, none, none, none, none], [some (AObj.cells ((AV.bool false) :: (ints .u8 (List.replicate 88 0))) 50), some (AObj.cells ((AV.bool mx) :: (ints .u8 (wrB w p p.length))) 50), some (AObj.ro 0 (u8s w)), some (AObj.ro 0 (u8s p))]⟩), .reg [(0, {val := some (AV.agg ((AV.bool mx) :: (ints .u8 (wrB w p p.length))))}), (1, {obj := some [AObj.cells ((AV.bool mx) :: (ints .u8 (wrB w p p.length))) 50]})]] [{val := some (AV.agg ((AV.bool mx) :: (ints .u8 (wrB w p p.length))))}, {}]
      (r := ⟨[AObj.cells (zeroCellsA Try.prog 50) 50 = AObj.cells ((AV.bool false) :: (ints .u8 (List.replicate 88 0))) 50,
          [AV.str s, AV.str [45]] = renL [] [AV.str s, AV.str [45]],
          Meets Try.prog 63 [AV.str s, AV.str [45]] [] (AV.tuple [AV.str (if minusB s = true then s.drop 1 else s), AV.bool (minusB s)]) [],
          AV.ren [] (AV.tuple [AV.str (if minusB s = true then s.drop 1 else s), AV.bool (minusB s)]) = AV.tuple [AV.str b, AV.bool mx],
          [AV.str b, AV.str [46]] = renL [] [AV.str b, AV.str [46]],
          Meets Try.prog 64 [AV.str b, AV.str [46]] [] (AV.tuple [AV.str (if 0 ≤ idx46 b then b.take (idx46 b).toNat else b), AV.str (if 0 ≤ idx46 b then b.drop ((idx46 b).toNat + 1) else []), AV.bool (decide (0 ≤ idx46 b))]) [],
          AV.ren [] (AV.tuple [AV.str (if 0 ≤ idx46 b then b.take (idx46 b).toNat else b), AV.str (if 0 ≤ idx46 b then b.drop ((idx46 b).toNat + 1) else []), AV.bool (decide (0 ≤ idx46 b))]) = AV.tuple [AV.str w, AV.str p, AV.bool false],
          [AV.str w] = renL [] [AV.str w],
          Meets Try.prog 65 [AV.str w] [] (AV.bool (isDigs w)) [],
          AV.ren [] (AV.bool (isDigs w)) = AV.bool true,
          AV.bool (!true) = AV.bool false,
          ([AV.bool mx] : List AV).length = 1,
          0 + 1 ≤ ((zeroCellsA Try.prog 50) : List AV).length,
          AV.agg (List.take 0 (zeroCellsA Try.prog 50) ++ [AV.bool mx] ++ List.drop 1 (zeroCellsA Try.prog 50)) = AV.agg ((AV.bool mx) :: (ints .u8 (List.replicate 88 0))),
          AObj.cells (zeroCellsA Try.prog 50) 50 = AObj.cells ((AV.bool false) :: (ints .u8 (List.replicate 88 0))) 50,
          ((AV.bool mx) :: (ints .u8 (List.replicate 88 0)) : List AV).length = 89,
          0 + 89 ≤ List.length ((AV.bool false) :: (ints .u8 (List.replicate 88 0))),
          AObj.cells (List.take 0 ((AV.bool false) :: (ints .u8 (List.replicate 88 0))) ++ ((AV.bool mx) :: (ints .u8 (List.replicate 88 0))) ++ List.drop (0 + 89) ((AV.bool false) :: (ints .u8 (List.replicate 88 0)))) 50 = AObj.cells ((AV.bool mx) :: (ints .u8 (List.replicate 88 0))) 50,
          AV.ptr 0 0 = AV.ptr 0 0,
          AV.str w = AV.str w,
          AV.str p = AV.str p,
          AV.ptr 1 0 = AV.ptr 1 0,
          AV.vec 2 w.length = AV.vec 2 w.length,
          AV.int .i64 ((w.length : Nat) : Int) = AV.int .i64 ((w.length : Nat) : Int),
          AV.int .i64 0 = AV.int .i64 0,
          AObj.cells ((AV.bool false) :: (ints .u8 (List.replicate 88 0))) 50 = AObj.cells ((AV.bool false) :: (ints .u8 (List.replicate 88 0))) 50,
          AObj.cells ((AV.bool mx) :: (ints .u8 (List.replicate 88 0))) 50 = AObj.cells ((AV.bool mx) :: (ints .u8 (wrA w 0))) 50,
          AObj.ro 0 (u8s w) = AObj.ro 0 (u8s w),
          Tri Try.prog (.loop (loopN (bodyOf Try.f31) 0)) (⟨[none, none, some (AV.ptr 0 0), none, none, none, some (AV.str w), some (AV.str p), none, some (AV.ptr 1 0), none, none, none, none, none, none, none, none, none, none, none, none, none, none, none, none, none, none, none, none, none, none, none, none, none, none, none, none, none, none, some (AV.vec 2 w.length), some (AV.int .i64 ((w.length : Nat) : Int)), some (AV.int .i64 0), none, none, none, none, none, none, none, none, none, none, none, none, none, none, none, none, none, none, none, none, none, none, none, none, none, none, none, none, none, none], [some (AObj.cells ((AV.bool false) :: (ints .u8 (List.replicate 88 0))) 50), some (AObj.cells ((AV.bool mx) :: (ints .u8 (wrA w 0))) 50), some (AObj.ro 0 (u8s w)), none]⟩) (.exit 0) (⟨[none, none, some (AV.ptr 0 0), none, none, none, some (AV.str w), some (AV.str p), none, some (AV.ptr 1 0), none, none, none, none, none, none, none, none, none, none, none, none, none, none, none, none, none, none, none, none, none, none, none, none, none, none, none, none, none, none, none, none, none, none, none, none, none, none, none, none, none, none, none, none, none, none, none, none, none, none, none, none, none, none, none, none, none, none, none, none, none, none, none], [some (AObj.cells ((AV.bool false) :: (ints .u8 (List.replicate 88 0))) 50), some (AObj.cells ((AV.bool mx) :: (ints .u8 (wrA w w.length))) 50), some (AObj.ro 0 (u8s w)), none]⟩),
          AV.ptr 0 0 = AV.ptr 0 0,
          AV.ptr 1 0 = AV.ptr 1 0,
          AV.vec 3 p.length = AV.vec 3 p.length,
          AV.int .i64 ((p.length : Nat) : Int) = AV.int .i64 ((p.length : Nat) : Int),
          AV.int .i64 0 = AV.int .i64 0,
          AObj.cells ((AV.bool false) :: (ints .u8 (List.replicate 88 0))) 50 = AObj.cells ((AV.bool false) :: (ints .u8 (List.replicate 88 0))) 50,
          AObj.cells ((AV.bool mx) :: (ints .u8 (wrA w w.length))) 50 = AObj.cells ((AV.bool mx) :: (ints .u8 (wrB w p 0))) 50,
          AObj.ro 0 (u8s w) = AObj.ro 0 (u8s w),
          AObj.ro 0 (u8s p) = AObj.ro 0 (u8s p),
          Tri Try.prog (.loop (loopN (bodyOf Try.f31) 1)) (⟨[none, none, some (AV.ptr 0 0), none, none, none, none, none, none, some (AV.ptr 1 0), none, none, none, none, none, none, none, none, none, none, none, none, none, none, none, none, none, none, none, none, none, none, none, none, none, none, none, none, none, none, none, none, none, none, none, none, none, none, none, none, none, none, none, none, none, none, none, none, some (AV.vec 3 p.length), some (AV.int .i64 ((p.length : Nat) : Int)), some (AV.int .i64 0), none, none, none, none, none, none, none, none, none, none, none, none], [some (AObj.cells ((AV.bool false) :: (ints .u8 (List.replicate 88 0))) 50), some (AObj.cells ((AV.bool mx) :: (ints .u8 (wrB w p 0))) 50), some (AObj.ro 0 (u8s w)), some (AObj.ro 0 (u8s p))]⟩) (.exit 2) (⟨[none, none, some (AV.ptr 0 0), none, none, none, none, none, none, some (AV.ptr 1 0), none, none, none, none, none, none, none, none, none, none, none, none, none, none, none, none, none, none, none, none, none, none, none, none, none, none, none, none, none, none, none, none, none, none, none, none, none, none, none, none, none, none, none, none, none, none, none, none, none, none, none, none, none, none, none, none, none, none, none, none, none, none, none], [some (AObj.cells ((AV.bool false) :: (ints .u8 (List.replicate 88 0))) 50), some (AObj.cells ((AV.bool mx) :: (ints .u8 (wrB w p p.length))) 50), some (AObj.ro 0 (u8s w)), some (AObj.ro 0 (u8s p))]⟩),
          0 ≤ 0,
          0 - 0 + 89 ≤ List.length ((AV.bool mx) :: (ints .u8 (wrB w p p.length))),
          List.take 89 (List.drop (0 - 0) ((AV.bool mx) :: (ints .u8 (wrB w p p.length)))) = (AV.bool mx) :: (ints .u8 (wrB w p p.length)),
          ((AV.bool mx) :: (ints .u8 (wrB w p p.length)) : List AV).length = 89,
          0 + 89 ≤ List.length ((AV.bool false) :: (ints .u8 (List.replicate 88 0))),
          AObj.cells (List.take 0 ((AV.bool false) :: (ints .u8 (List.replicate 88 0))) ++ ((AV.bool mx) :: (ints .u8 (wrB w p p.length))) ++ List.drop (0 + 89) ((AV.bool false) :: (ints .u8 (List.replicate 88 0)))) 50 = AObj.cells ((AV.bool mx) :: (ints .u8 (wrB w p p.length))) 50],
        .ret, ⟨[none, none, some (AV.ptr 0 0), some (AV.bool true), none, none, none, none, none, some (AV.ptr 1 0), none, none, none, none, none, none, none, none, none, none, none, none, none, none, none, none, none, none, none, none, none, none, none, none, none, none, none, none, none, none, none, none, none, none, none, none, none, none, none, none, none, none, none, none, none, none, none, none, none, none, none, none, none, none, none, none, none, none, none, none, none, none, some (AV.agg ((AV.bool mx) :: (ints .u8 (wrB w p p.length))))], [some (AObj.cells ((AV.bool mx) :: (ints .u8 (wrB w p p.length))) 50), some (AObj.cells ((AV.bool mx) :: (ints .u8 (wrB w p p.length))) 50), some (AObj.ro 0 (u8s w)), some (AObj.ro 0 (u8s p))]⟩, []⟩)
      (ob := [0 ≤ 0,
          0 - 0 + 89 ≤ List.length ((AV.bool mx) :: (ints .u8 (wrB w p p.length))),
          List.take 89 (List.drop (0 - 0) ((AV.bool mx) :: (ints .u8 (wrB w p p.length)))) = (AV.bool mx) :: (ints .u8 (wrB w p p.length)),
          AV.tuple [AV.agg ((AV.bool mx) :: (ints .u8 (wrB w p p.length))), AV.bool true] = AV.tuple [AV.agg ((AV.bool mx) :: (ints .u8 (digs 88 (wrV w p)))), AV.bool true],
          Avoid (fun n => decide (0 ≤ n)) (AV.tuple [AV.agg ((AV.bool mx) :: (ints .u8 (digs 88 (wrV w p)))), AV.bool true])])
      Try.func31 (by kernel_rfl) Try.call31 (by kernel_rfl)
      ⟨by kernel_rfl, rfl, cutPrefix_meets s, (by rw [← hb, ← hmx]; rfl), rfl, cut_meets b hbl, (by rw [show decide (0 ≤ idx46 b) = false by rw [hpt]; simpa using c1, ← hw, ← hp]; rfl), rfl, areDigits_meets w (by omega), boolT h1, rfl, rfl, Nat.le_of_ble_eq_true (by kernel_rfl), by kernel_rfl, by kernel_rfl, (by simp only [List.length_cons, List.length_nil, List.length_append, ints_length, u8s_length, List.length_replicate, List.length_set, List.length_map, digs_length] <;> omega), (by simp only [List.length_cons, List.length_nil, List.length_append, ints_length, u8s_length, List.length_replicate, List.length_set, List.length_map, digs_length] <;> omega), store_whole (by simp only [List.length_cons, List.length_nil, List.length_append, ints_length, u8s_length, List.length_replicate, List.length_set, List.length_map, digs_length] <;> omega), rfl, rfl, rfl, rfl, rfl, rfl, rfl, rfl, by rw [wrA_zero w hwl], rfl, wr_l1 mx w p hwl gw, rfl, rfl, rfl, rfl, rfl, rfl, by rw [wrA_end w p], rfl, rfl, wr_l2 mx w p hwl hpl gp, Nat.zero_le _, (by simp only [List.length_cons, List.length_nil, List.length_append, ints_length, u8s_length, List.length_replicate, List.length_set, List.length_map, digs_length] <;> omega), whole_cells (by simp only [List.length_cons, List.length_nil, List.length_append, ints_length, u8s_length, List.length_replicate, List.length_set, List.length_map, digs_length] <;> omega), (by simp only [List.length_cons, List.length_nil, List.length_append, ints_length, u8s_length, List.length_replicate, List.length_set, List.length_map, digs_length] <;> omega), (by simp only [List.length_cons, List.length_nil, List.length_append, ints_length, u8s_length, List.length_replicate, List.length_set, List.length_map, digs_length] <;> omega), store_whole (by simp only [List.length_cons, List.length_nil, List.length_append, ints_length, u8s_length, List.length_replicate, List.length_set, List.length_map, digs_length] <;> omega), trivial⟩
      (.inl rfl) (by kernel_rfl) ⟨Nat.zero_le _, (by simp only [List.length_cons, List.length_nil, List.length_append, ints_length, u8s_length, List.length_replicate, List.length_set, List.length_map, digs_length] <;> omega), whole_cells (by simp only [List.length_cons, List.length_nil, List.length_append, ints_length, u8s_length, List.length_replicate, List.length_set, List.length_map, digs_length] <;> omega), by rw [e1], Avoid.tuple (AvoidL.cons (Avoid.agg (AvoidL.cons (Avoid.bool _ _) (AvoidL.ints _ _ _))) (AvoidL.cons (Avoid.bool _ _) (AvoidL.nil _))), trivial⟩

theorem written_bad (s b w p : List UInt8) (mx pt : Bool) (hs : s.length < 1000000) (hbl : b.length < 1000000) (hwn : w.length < 1000000) (hpn : p.length < 1000000) (hmx : minusB s = mx) (hb : bodyS s = b) (hw : wholeS b = w) (hp : partS b = p) (hpt : decide (0 ≤ idx46 b) = pt) (hpe : pt = false → p = []) (h : ¬ (isDigs w = true ∧ (pt = true → isDigs p = true))) : Meets Try.prog 31 [AV.str s] [] (AV.tuple [AV.agg ((AV.bool false) :: (ints .u8 (List.replicate 88 0))), AV.bool false]) [] := by
  by_cases c1 : pt = true
  · by_cases c2 : isDigs w = true
    · by_cases c3 : isDigs p = true
      · exact absurd ⟨‹_›, fun _ => ‹_›⟩ h
      · exact meets_of_exec (fn := Try.f31) 4 [.reg [(0, {nm := [0], obj := some [AObj.cells ((AV.bool false) :: (ints .u8 (List.replicate 88 0))) 50]})], .reg [(1, {call := some ⟨[], [AV.str s, AV.str [45]], [], AV.tuple [AV.str (if minusB s = true then s.drop 1 else s), AV.bool (minusB s)], []⟩, val := some (AV.tuple [AV.str b, AV.bool mx])})], .reg [(1, {call := some ⟨[], [AV.str b, AV.str [46]], [], AV.tuple [AV.str (if 0 ≤ idx46 b then b.take (idx46 b).toNat else b), AV.str (if 0 ≤ idx46 b then b.drop ((idx46 b).toNat + 1) else []), AV.bool (decide (0 ≤ idx46 b))], []⟩, val := some (AV.tuple [AV.str w, AV.str p, AV.bool true])})], .reg [(1, {call := some ⟨[], [AV.str w], [], AV.bool (isDigs w), []⟩, val := some (AV.bool true)}), (2, {val := some (AV.bool false)}), (7, {call := some ⟨[], [AV.str p], [], AV.bool (isDigs p), []⟩, val := some (AV.bool false)}), (8, {val := some (AV.bool true)})], .reg [(0, {val := some (AV.agg ((AV.bool false) :: (ints .u8 (List.replicate 88 0))))}), (1, {obj := some [AObj.cells ((AV.bool false) :: (ints .u8 (List.replicate 88 0))) 50]})]] [{val := some (AV.agg ((AV.bool false) :: (ints .u8 (List.replicate 88 0))))}, {}]
          (r := ⟨[AObj.cells (zeroCellsA Try.prog 50) 50 = AObj.cells ((AV.bool false) :: (ints .u8 (List.replicate 88 0))) 50,
              [AV.str s, AV.str [45]] = renL [] [AV.str s, AV.str [45]],
              Meets Try.prog 63 [AV.str s, AV.str [45]] [] (AV.tuple [AV.str (if minusB s = true then s.drop 1 else s), AV.bool (minusB s)]) [],
              AV.ren [] (AV.tuple [AV.str (if minusB s = true then s.drop 1 else s), AV.bool (minusB s)]) = AV.tuple [AV.str b, AV.bool mx],
              [AV.str b, AV.str [46]] = renL [] [AV.str b, AV.str [46]],
              Meets Try.prog 64 [AV.str b, AV.str [46]] [] (AV.tuple [AV.str (if 0 ≤ idx46 b then b.take (idx46 b).toNat else b), AV.str (if 0 ≤ idx46 b then b.drop ((idx46 b).toNat + 1) else []), AV.bool (decide (0 ≤ idx46 b))]) [],
              AV.ren [] (AV.tuple [AV.str (if 0 ≤ idx46 b then b.take (idx46 b).toNat else b), AV.str (if 0 ≤ idx46 b then b.drop ((idx46 b).toNat + 1) else []), AV.bool (decide (0 ≤ idx46 b))]) = AV.tuple [AV.str w, AV.str p, AV.bool true],
              [AV.str w] = renL [] [AV.str w],
              Meets Try.prog 65 [AV.str w] [] (AV.bool (isDigs w)) [],
              AV.ren [] (AV.bool (isDigs w)) = AV.bool true,
              AV.bool (!true) = AV.bool false,
              [AV.str p] = renL [] [AV.str p],
              Meets Try.prog 65 [AV.str p] [] (AV.bool (isDigs p)) [],
              AV.ren [] (AV.bool (isDigs p)) = AV.bool false,
              AV.bool (!false) = AV.bool true,
              AV.agg (zeroCellsA Try.prog 50) = AV.agg ((AV.bool false) :: (ints .u8 (List.replicate 88 0))),
              ((AV.bool false) :: (ints .u8 (List.replicate 88 0)) : List AV).length = 89,
              0 + 89 ≤ List.length ((AV.bool false) :: (ints .u8 (List.replicate 88 0))),
              AObj.cells (List.take 0 ((AV.bool false) :: (ints .u8 (List.replicate 88 0))) ++ ((AV.bool false) :: (ints .u8 (List.replicate 88 0))) ++ List.drop (0 + 89) ((AV.bool false) :: (ints .u8 (List.replicate 88 0)))) 50 = AObj.cells ((AV.bool false) :: (ints .u8 (List.replicate 88 0))) 50],
            .ret, ⟨[some (AV.str s), none, some (AV.ptr 0 0), some (AV.bool false), some (AV.str b), some (AV.bool mx), some (AV.str w), some (AV.str p), some (AV.bool true), none, none, none, none, none, some (AV.tuple [AV.str b, AV.bool mx]), some (AV.str s), some (AV.tuple [AV.str b, AV.bool mx]), some (AV.str b), some (AV.bool mx), some (AV.tuple [AV.str w, AV.str p, AV.bool true]), some (AV.str b), some (AV.tuple [AV.str w, AV.str p, AV.bool true]), some (AV.str w), some (AV.str p), some (AV.bool true), some (AV.str w), some (AV.bool true), some (AV.bool false), some (AV.bool false), some (AV.bool true), some (AV.bool true), some (AV.str p), some (AV.bool false), some (AV.bool true), some (AV.bool true), some (AV.bool true), some (AV.agg ((AV.bool false) :: (ints .u8 (List.replicate 88 0)))), none, none, none, none, none, none, none, none, none, none, none, none, none, none, none, none, none, none, none, none, none, none, none, none, none, none, none, none, none, none, none, none, none, none, none, none], [some (AObj.cells ((AV.bool false) :: (ints .u8 (List.replicate 88 0))) 50), none, none, none]⟩, []⟩)
          (ob := [0 ≤ 0,
              0 - 0 + 89 ≤ List.length ((AV.bool false) :: (ints .u8 (List.replicate 88 0))),
              List.take 89 (List.drop (0 - 0) ((AV.bool false) :: (ints .u8 (List.replicate 88 0)))) = (AV.bool false) :: (ints .u8 (List.replicate 88 0)),
              AV.tuple [AV.agg ((AV.bool false) :: (ints .u8 (List.replicate 88 0))), AV.bool false] = AV.tuple [AV.agg ((AV.bool false) :: (ints .u8 (List.replicate 88 0))), AV.bool false],
              Avoid (fun n => decide (0 ≤ n)) (AV.tuple [AV.agg ((AV.bool false) :: (ints .u8 (List.replicate 88 0))), AV.bool false])])
          Try.func31 (by kernel_rfl) Try.call31 (by kernel_rfl)
          ⟨by kernel_rfl, rfl, cutPrefix_meets s, (by rw [← hb, ← hmx]; rfl), rfl, cut_meets b hbl, (by rw [show decide (0 ≤ idx46 b) = true by rw [hpt]; simpa using c1, ← hw, ← hp]; rfl), rfl, areDigits_meets w (by omega), boolT c2, rfl, rfl, areDigits_meets p (by omega), boolF c3, rfl, by kernel_rfl, (by simp only [List.length_cons, List.length_nil, List.length_append, ints_length, u8s_length, List.length_replicate, List.length_set, List.length_map, digs_length] <;> omega), (by simp only [List.length_cons, List.length_nil, List.length_append, ints_length, u8s_length, List.length_replicate, List.length_set, List.length_map, digs_length] <;> omega), store_whole (by simp only [List.length_cons, List.length_nil, List.length_append, ints_length, u8s_length, List.length_replicate, List.length_set, List.length_map, digs_length] <;> omega), trivial⟩
          (.inl rfl) (by kernel_rfl) ⟨Nat.zero_le _, (by simp only [List.length_cons, List.length_nil, List.length_append, ints_length, u8s_length, List.length_replicate, List.length_set, List.length_map, digs_length] <;> omega), whole_cells (by simp only [List.length_cons, List.length_nil, List.length_append, ints_length, u8s_length, List.length_replicate, List.length_set, List.length_map, digs_length] <;> omega), rfl, Avoid.tuple (AvoidL.cons (Avoid.agg (AvoidL.cons (Avoid.bool _ _) (AvoidL.ints _ _ _))) (AvoidL.cons (Avoid.bool _ _) (AvoidL.nil _))), trivial⟩
    · exact meets_of_exec (fn := Try.f31) 4 [.reg [(0, {nm := [0], obj := some [AObj.cells ((AV.bool false) :: (ints .u8 (List.replicate 88 0))) 50]})], .reg [(1, {call := some ⟨[], [AV.str s, AV.str [45]], [], AV.tuple [AV.str (if minusB s = true then s.drop 1 else s), AV.bool (minusB s)], []⟩, val := some (AV.tuple [AV.str b, AV.bool mx])})], .reg [(1, {call := some ⟨[], [AV.str b, AV.str [46]], [], AV.tuple [AV.str (if 0 ≤ idx46 b then b.take (idx46 b).toNat else b), AV.str (if 0 ≤ idx46 b then b.drop ((idx46 b).toNat + 1) else []), AV.bool (decide (0 ≤ idx46 b))], []⟩, val := some (AV.tuple [AV.str w, AV.str p, AV.bool true])})], .reg [(1, {call := some ⟨[], [AV.str w], [], AV.bool (isDigs w), []⟩, val := some (AV.bool false)}), (2, {val := some (AV.bool true)})], .reg [(0, {val := some (AV.agg ((AV.bool false) :: (ints .u8 (List.replicate 88 0))))}), (1, {obj := some [AObj.cells ((AV.bool false) :: (ints .u8 (List.replicate 88 0))) 50]})]] [{val := some (AV.agg ((AV.bool false) :: (ints .u8 (List.replicate 88 0))))}, {}]
        (r := ⟨[AObj.cells (zeroCellsA Try.prog 50) 50 = AObj.cells ((AV.bool false) :: (ints .u8 (List.replicate 88 0))) 50,
            [AV.str s, AV.str [45]] = renL [] [AV.str s, AV.str [45]],
            Meets Try.prog 63 [AV.str s, AV.str [45]] [] (AV.tuple [AV.str (if minusB s = true then s.drop 1 else s), AV.bool (minusB s)]) [],
            AV.ren [] (AV.tuple [AV.str (if minusB s = true then s.drop 1 else s), AV.bool (minusB s)]) = AV.tuple [AV.str b, AV.bool mx],
            [AV.str b, AV.str [46]] = renL [] [AV.str b, AV.str [46]],
            Meets Try.prog 64 [AV.str b, AV.str [46]] [] (AV.tuple [AV.str (if 0 ≤ idx46 b then b.take (idx46 b).toNat else b), AV.str (if 0 ≤ idx46 b then b.drop ((idx46 b).toNat + 1) else []), AV.bool (decide (0 ≤ idx46 b))]) [],
            AV.ren [] (AV.tuple [AV.str (if 0 ≤ idx46 b then b.take (idx46 b).toNat else b), AV.str (if 0 ≤ idx46 b then b.drop ((idx46 b).toNat + 1) else []), AV.bool (decide (0 ≤ idx46 b))]) = AV.tuple [AV.str w, AV.str p, AV.bool true],
            [AV.str w] = renL [] [AV.str w],
            Meets Try.prog 65 [AV.str w] [] (AV.bool (isDigs w)) [],
            AV.ren [] (AV.bool (isDigs w)) = AV.bool false,
            AV.bool (!false) = AV.bool true,
            AV.agg (zeroCellsA Try.prog 50) = AV.agg ((AV.bool false) :: (ints .u8 (List.replicate 88 0))),
            ((AV.bool false) :: (ints .u8 (List.replicate 88 0)) : List AV).length = 89,
            0 + 89 ≤ List.length ((AV.bool false) :: (ints .u8 (List.replicate 88 0))),
            AObj.cells (List.take 0 ((AV.bool false) :: (ints .u8 (List.replicate 88 0))) ++ ((AV.bool false) :: (ints .u8 (List.replicate 88 0))) ++ List.drop (0 + 89) ((AV.bool false) :: (ints .u8 (List.replicate 88 0)))) 50 = AObj.cells ((AV.bool false) :: (ints .u8 (List.replicate 88 0))) 50],
          .ret, ⟨[some (AV.str s), none, some (AV.ptr 0 0), some (AV.bool false), some (AV.str b), some (AV.bool mx), some (AV.str w), some (AV.str p), some (AV.bool true), none, none, none, none, none, some (AV.tuple [AV.str b, AV.bool mx]), some (AV.str s), some (AV.tuple [AV.str b, AV.bool mx]), some (AV.str b), some (AV.bool mx), some (AV.tuple [AV.str w, AV.str p, AV.bool true]), some (AV.str b), some (AV.tuple [AV.str w, AV.str p, AV.bool true]), some (AV.str w), some (AV.str p), some (AV.bool true), some (AV.str w), some (AV.bool false), some (AV.bool true), some (AV.bool true), some (AV.tuple []), some (AV.tuple []), some (AV.tuple []), some (AV.tuple []), some (AV.tuple []), some (AV.tuple []), some (AV.bool true), some (AV.agg ((AV.bool false) :: (ints .u8 (List.replicate 88 0)))), none, none, none, none, none, none, none, none, none, none, none, none, none, none, none, none, none, none, none, none, none, none, none, none, none, none, none, none, none, none, none, none, none, none, none, none], [some (AObj.cells ((AV.bool false) :: (ints .u8 (List.replicate 88 0))) 50), none, none, none]⟩, []⟩)
        (ob := [0 ≤ 0,
            0 - 0 + 89 ≤ List.length ((AV.bool false) :: (ints .u8 (List.replicate 88 0))),
            List.take 89 (List.drop (0 - 0) ((AV.bool false) :: (ints .u8 (List.replicate 88 0)))) = (AV.bool false) :: (ints .u8 (List.replicate 88 0)),
            AV.tuple [AV.agg ((AV.bool false) :: (ints .u8 (List.replicate 88 0))), AV.bool false] = AV.tuple [AV.agg ((AV.bool false) :: (ints .u8 (List.replicate 88 0))), AV.bool false],
            Avoid (fun n => decide (0 ≤ n)) (AV.tuple [AV.agg ((AV.bool false) :: (ints .u8 (List.replicate 88 0))), AV.bool false])])
        Try.func31 (by kernel_rfl) Try.call31 (by kernel_rfl)
        ⟨by kernel_rfl, rfl, cutPrefix_meets s, (by rw [← hb, ← hmx]; rfl), rfl, cut_meets b hbl, (by rw [show decide (0 ≤ idx46 b) = true by rw [hpt]; simpa using c1, ← hw, ← hp]; rfl), rfl, areDigits_meets w (by omega), boolF c2, rfl, by kernel_rfl, (by simp only [List.length_cons, List.length_nil, List.length_append, ints_length, u8s_length, List.length_replicate, List.length_set, List.length_map, digs_length] <;> omega), (by simp only [List.length_cons, List.length_nil, List.length_append, ints_length, u8s_length, List.length_replicate, List.length_set, List.length_map, digs_length] <;> omega), store_whole (by simp only [List.length_cons, List.length_nil, List.length_append, ints_length, u8s_length, List.length_replicate, List.length_set, List.length_map, digs_length] <;> omega), trivial⟩
        (.inl rfl) (by kernel_rfl) ⟨Nat.zero_le _, (by simp only [List.length_cons, List.length_nil, List.length_append, ints_length, u8s_length, List.length_replicate, List.length_set, List.length_map, digs_length] <;> omega), whole_cells (by simp only [List.length_cons, List.length_nil, List.length_append, ints_length, u8s_length, List.length_replicate, List.length_set, List.length_map, digs_length] <;> omega), rfl, Avoid.tuple (AvoidL.cons (Avoid.agg (AvoidL.cons (Avoid.bool _ _) (AvoidL.ints _ _ _))) (AvoidL.cons (Avoid.bool _ _) (AvoidL.nil _))), trivial⟩
  · by_cases c2 : isDigs w = true
    · exact absurd ⟨‹_›, fun g => absurd g ‹_›⟩ h
    · exact meets_of_exec (fn := Try.f31) 4 [.reg [(0, {nm := [0], obj := some [AObj.cells ((AV.bool false) :: (ints .u8 (List.replicate 88 0))) 50]})], .reg [(1, {call := some ⟨[], [AV.str s, AV.str [45]], [], AV.tuple [AV.str (if minusB s = true then s.drop 1 else s), AV.bool (minusB s)], []⟩, val := some (AV.tuple [AV.str b, AV.bool mx])})], .reg [(1, {call := some ⟨[], [AV.str b, AV.str [46]], [], AV.tuple [AV.str (if 0 ≤ idx46 b then b.take (idx46 b).toNat else b), AV.str (if 0 ≤ idx46 b then b.drop ((idx46 b).toNat + 1) else []), AV.bool (decide (0 ≤ idx46 b))], []⟩, val := some (AV.tuple [AV.str w, AV.str p, AV.bool false])})], .reg [(1, {call := some ⟨[], [AV.str w], [], AV.bool (isDigs w), []⟩, val := some (AV.bool false)}), (2, {val := some (AV.bool true)})], .reg [(0, {val := some (AV.agg ((AV.bool false) :: (ints .u8 (List.replicate 88 0))))}), (1, {obj := some [AObj.cells ((AV.bool false) :: (ints .u8 (List.replicate 88 0))) 50]})]] [{val := some (AV.agg ((AV.bool false) :: (ints .u8 (List.replicate 88 0))))}, {}]
        (r := ⟨[AObj.cells (zeroCellsA Try.prog 50) 50 = AObj.cells ((AV.bool false) :: (ints .u8 (List.replicate 88 0))) 50,
            [AV.str s, AV.str [45]] = renL [] [AV.str s, AV.str [45]],
            Meets Try.prog 63 [AV.str s, AV.str [45]] [] (AV.tuple [AV.str (if minusB s = true then s.drop 1 else s), AV.bool (minusB s)]) [],
            AV.ren [] (AV.tuple [AV.str (if minusB s = true then s.drop 1 else s), AV.bool (minusB s)]) = AV.tuple [AV.str b, AV.bool mx],
            [AV.str b, AV.str [46]] = renL [] [AV.str b, AV.str [46]],
            Meets Try.prog 64 [AV.str b, AV.str [46]] [] (AV.tuple [AV.str (if 0 ≤ idx46 b then b.take (idx46 b).toNat else b), AV.str (if 0 ≤ idx46 b then b.drop ((idx46 b).toNat + 1) else []), AV.bool (decide (0 ≤ idx46 b))]) [],
            AV.ren [] (AV.tuple [AV.str (if 0 ≤ idx46 b then b.take (idx46 b).toNat else b), AV.str (if 0 ≤ idx46 b then b.drop ((idx46 b).toNat + 1) else []), AV.bool (decide (0 ≤ idx46 b))]) = AV.tuple [AV.str w, AV.str p, AV.bool false],
            [AV.str w] = renL [] [AV.str w],
            Meets Try.prog 65 [AV.str w] [] (AV.bool (isDigs w)) [],
            AV.ren [] (AV.bool (isDigs w)) = AV.bool false,
            AV.bool (!false) = AV.bool true,
            AV.agg (zeroCellsA Try.prog 50) = AV.agg ((AV.bool false) :: (ints .u8 (List.replicate 88 0))),
            ((AV.bool false) :: (ints .u8 (List.replicate 88 0)) : List AV).length = 89,
            0 + 89 ≤ List.length ((AV.bool false) :: (ints .u8 (List.replicate 88 0))),
            AObj.cells (List.take 0 ((AV.bool false) :: (ints .u8 (List.replicate 88 0))) ++ ((AV.bool false) :: (ints .u8 (List.replicate 88 0))) ++ List.drop (0 + 89) ((AV.bool false) :: (ints .u8 (List.replicate 88 0)))) 50 = AObj.cells ((AV.bool false) :: (ints .u8 (List.replicate 88 0))) 50],
          .ret, ⟨[some (AV.str s), none, some (AV.ptr 0 0), some (AV.bool false), some (AV.str b), some (AV.bool mx), some (AV.str w), some (AV.str p), some (AV.bool false), none, none, none, none, none, some (AV.tuple [AV.str b, AV.bool mx]), some (AV.str s), some (AV.tuple [AV.str b, AV.bool mx]), some (AV.str b), some (AV.bool mx), some (AV.tuple [AV.str w, AV.str p, AV.bool false]), some (AV.str b), some (AV.tuple [AV.str w, AV.str p, AV.bool false]), some (AV.str w), some (AV.str p), some (AV.bool false), some (AV.str w), some (AV.bool false), some (AV.bool true), some (AV.bool true), some (AV.tuple []), some (AV.tuple []), some (AV.tuple []), some (AV.tuple []), some (AV.tuple []), some (AV.tuple []), some (AV.bool true), some (AV.agg ((AV.bool false) :: (ints .u8 (List.replicate 88 0)))), none, none, none, none, none, none, none, none, none, none, none, none, none, none, none, none, none, none, none, none, none, none, none, none, none, none, none, none, none, none, none, none, none, none, none, none], [some (AObj.cells ((AV.bool false) :: (ints .u8 (List.replicate 88 0))) 50), none, none, none]⟩, []⟩)
        (ob := [0 ≤ 0,
            0 - 0 + 89 ≤ List.length ((AV.bool false) :: (ints .u8 (List.replicate 88 0))),
            List.take 89 (List.drop (0 - 0) ((AV.bool false) :: (ints .u8 (List.replicate 88 0)))) = (AV.bool false) :: (ints .u8 (List.replicate 88 0)),
            AV.tuple [AV.agg ((AV.bool false) :: (ints .u8 (List.replicate 88 0))), AV.bool false] = AV.tuple [AV.agg ((AV.bool false) :: (ints .u8 (List.replicate 88 0))), AV.bool false],
            Avoid (fun n => decide (0 ≤ n)) (AV.tuple [AV.agg ((AV.bool false) :: (ints .u8 (List.replicate 88 0))), AV.bool false])])
        Try.func31 (by kernel_rfl) Try.call31 (by kernel_rfl)
        ⟨by kernel_rfl, rfl, cutPrefix_meets s, (by rw [← hb, ← hmx]; rfl), rfl, cut_meets b hbl, (by rw [show decide (0 ≤ idx46 b) = false by rw [hpt]; simpa using c1, ← hw, ← hp]; rfl), rfl, areDigits_meets w (by omega), boolF c2, rfl, by kernel_rfl, (by simp only [List.length_cons, List.length_nil, List.length_append, ints_length, u8s_length, List.length_replicate, List.length_set, List.length_map, digs_length] <;> omega), (by simp only [List.length_cons, List.length_nil, List.length_append, ints_length, u8s_length, List.length_replicate, List.length_set, List.length_map, digs_length] <;> omega), store_whole (by simp only [List.length_cons, List.length_nil, List.length_append, ints_length, u8s_length, List.length_replicate, List.length_set, List.length_map, digs_length] <;> omega), trivial⟩
        (.inl rfl) (by kernel_rfl) ⟨Nat.zero_le _, (by simp only [List.length_cons, List.length_nil, List.length_append, ints_length, u8s_length, List.length_replicate, List.length_set, List.length_map, digs_length] <;> omega), whole_cells (by simp only [List.length_cons, List.length_nil, List.length_append, ints_length, u8s_length, List.length_replicate, List.length_set, List.length_map, digs_length] <;> omega), rfl, Avoid.tuple (AvoidL.cons (Avoid.agg (AvoidL.cons (Avoid.bool _ _) (AvoidL.ints _ _ _))) (AvoidL.cons (Avoid.bool _ _) (AvoidL.nil _))), trivial⟩

def okW (s : List UInt8) : Bool := isDigs (wholeS (bodyS s)) && (!decide (0 ≤ idx46 (bodyS s)) || isDigs (partS (bodyS s)))
def wrS (s : List UInt8) : Int := wrV (wholeS (bodyS s)) (partS (bodyS s))
theorem bodyS_len (s : List UInt8) : (bodyS s).length ≤ s.length := by unfold bodyS; split <;> simp
theorem wholeS_len (s : List UInt8) : (wholeS s).length ≤ s.length := by unfold wholeS; split <;> simp <;> omega
theorem partS_len (s : List UInt8) : (partS s).length ≤ s.length := by unfold partS; split <;> simp
theorem partS_none {s : List UInt8} (h : decide (0 ≤ idx46 s) = false) : partS s = [] := by
  unfold partS; rw [if_neg (by simpa using h)]
theorem okW_spec (s : List UInt8) : okW s = true ↔ isDigs (wholeS (bodyS s)) = true ∧ (decide (0 ≤ idx46 (bodyS s)) = true → isDigs (partS (bodyS s)) = true) := by
  unfold okW
  cases isDigs (wholeS (bodyS s)) <;> cases decide (0 ≤ idx46 (bodyS s)) <;> cases isDigs (partS (bodyS s)) <;> simp
theorem written_yes (s : List UInt8) (hs : s.length < 1000000) (h : okW s = true) : Meets Try.prog 31 [AV.str s] [] (AV.tuple [AV.agg (AV.bool (minusB s) :: ints .u8 (digs 88 (wrS s))), AV.bool true]) [] := by
  have h1 := bodyS_len s
  have h2 := wholeS_len (bodyS s)
  have h3 := partS_len (bodyS s)
  have hk := (okW_spec s).1 h
  exact written_ok s _ _ _ _ _ hs (by omega) (by omega) (by omega) rfl rfl rfl rfl rfl partS_none hk.1 hk.2
theorem written_no (s : List UInt8) (hs : s.length < 1000000) (h : ¬ okW s = true) : Meets Try.prog 31 [AV.str s] [] (AV.tuple [AV.agg (AV.bool false :: ints .u8 (List.replicate 88 0)), AV.bool false]) [] := by
  have h1 := bodyS_len s
  have h2 := wholeS_len (bodyS s)
  have h3 := partS_len (bodyS s)
  exact written_bad s _ _ _ _ _ hs (by omega) (by omega) (by omega) rfl rfl rfl rfl rfl partS_none (fun g => h ((okW_spec s).2 g))
theorem wrV_nonneg {w p : List UInt8} (gw : ∀ b ∈ w, okDig b) (gp : ∀ b ∈ p, okDig b) : 0 ≤ wrV w p := by
  have h1 := (val_bounds _ (bytesD_dig gw)).1
  have h2 := (val_bounds _ (bytesD_dig gp)).1
  exact Int.add_nonneg (Int.mul_nonneg h1 (by decide)) (Int.mul_nonneg h2 (Int.le_of_lt (pow_pos' _)))

end Go.Proofs.Ytabgphldbgdbpaa
