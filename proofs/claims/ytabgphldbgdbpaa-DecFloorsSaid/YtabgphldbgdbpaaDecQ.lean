import Derived.Test.YtabgphldbgdbpaaDecP
set_option linter.unusedVariables false
set_option linter.unusedSimpArgs false
set_option maxRecDepth 20000
namespace Go.Proofs.Ytabgphldbgdbpaa
open Go Sx Dc

theorem meets_indexByteString {P : Program} {f : FuncId} {fn : Func} (hf : P.funcs[f]? = some fn) (h1 : (fn.name == "runtime.NumGoroutine") = false) (h2 : fn.body.isNone = true) (h3 : Extern.findNext fn = none) (h4 : Extern.find fn = some Extern.BytealgIndexByte.indexByte) (s : List UInt8) (c : Int) :
    Meets P f [.str s, .int .u8 c] [] (.int .i64 (Lib.indexByte s c.toNat.toUInt8)) [] := by
  intro w E vs hvs hp
  simp only [denL, den, Option.some.injEq] at hvs
  subst hvs
  refine .inr ⟨_, w, ?_, E, _, rfl, rfl, PostR.same hp⟩
  rw [run_callFunc_extern hf h1 h2 h3 (e := Extern.BytealgIndexByte.indexByte) h4]
  have := Lib.run_indexByteString (P := P) ⟨s.toArray⟩ c w
  simp only [this]
  rfl
def idx46 (s : List UInt8) : Int := Lib.indexByte s 46
theorem idx46_ge (s : List UInt8) : -1 ≤ idx46 s := Lib.indexByte_ge s 46
theorem idx46_lt : ∀ (s : List UInt8), idx46 s < s.length
  | [] => by simp [idx46, Lib.indexByte]
  | b :: s => by
    have ih := idx46_lt s
    have hg := idx46_ge s
    unfold idx46 at *
    rw [Lib.indexByte, List.length_cons]
    split
    · omega
    · split <;> omega
theorem idx_one {s : List UInt8} (h : [46] = s) : AV.int .i64 0 = AV.int .i64 (idx46 s) := by subst h; rfl
/-- Is there a minus ahead? -/
def minusB (s : List UInt8) : Bool := decide (s.head? = some 45)
theorem has_short {s : List UInt8} (c : ¬ ((s.length : Nat) : Int) ≥ 1) : AV.bool false = AV.bool (minusB s) := by
  cases s with
  | nil => rfl
  | cons a s => simp at c; omega
theorem has_long {s : List UInt8} (c : ((s.length : Nat) : Int) ≥ 1) : AV.bool ((List.drop 0 s).take (1 - 0) == [45]) = AV.bool (minusB s) := by
  cases s with
  | nil => simp at c
  | cons a s => simp [minusB]; rw [Bool.eq_iff_iff]; simp
theorem minus_pos {s : List UInt8} (h : minusB s = true) : 1 ≤ s.length := by
  cases s with
  | nil => simp [minusB] at h
  | cons a s => simp

theorem indexByte_meets (s : List UInt8) : Meets Try.prog 86 [AV.str s, AV.int .u8 46] [] (AV.int .i64 (idx46 s)) [] := by
  exact meets_of_exec (fn := Try.f86) 0 [.reg [], .reg [(2, {call := some ⟨[], [AV.str s, AV.int .u8 46], [], AV.int .i64 (Lib.indexByte s (Int.toNat 46).toUInt8), []⟩, val := some (AV.int .i64 (idx46 s))})]] [{}]
    (r := ⟨[[AV.str s, AV.int .u8 46] = renL [] [AV.str s, AV.int .u8 46],
        Meets Try.prog 90 [AV.str s, AV.int .u8 46] [] (AV.int .i64 (Lib.indexByte s (Int.toNat 46).toUInt8)) [],
        AV.ren [] (AV.int .i64 (Lib.indexByte s (Int.toNat 46).toUInt8)) = AV.int .i64 (idx46 s)],
      .ret, ⟨[some (AV.str s), some (AV.int .u8 46), none, none, some (AV.int .i64 (idx46 s)), some (AV.str s), some (AV.int .u8 46), some (AV.int .i64 (idx46 s))], []⟩, []⟩)
    (ob := [AV.int .i64 (idx46 s) = AV.int .i64 (idx46 s)])
    Try.func86 (by kernel_rfl) Try.call86 (by kernel_rfl)
    ⟨rfl, meets_indexByteString (fn := Try.f90) Try.func90 (by kernel_rfl) (by kernel_rfl) (by kernel_rfl) (by kernel_rfl) s 46, rfl, trivial⟩
    (.inl rfl) (by kernel_rfl) ⟨rfl, trivial⟩

theorem index_meets (s : List UInt8) : Meets Try.prog 85 [AV.str s, AV.str [46]] [] (AV.int .i64 (idx46 s)) [] := by
  by_cases c1 : [46] = s
  · exact meets_of_exec (fn := Try.f85) 0 [.reg [], .reg [(1, {val := some (AV.int .i64 1)})], .reg [(1, {val := some (AV.bool false)}), (5, {val := some (AV.bool true)})], .reg []] [{}]
      (r := ⟨[AV.int .i64 (List.length ([46] : List UInt8)) = AV.int .i64 1,
          AV.bool ((1 : Int) == 0) = AV.bool false,
          AV.bool ([46] == s) = AV.bool true],
        .ret, ⟨[some (AV.str s), some (AV.str [46]), none, none, some (AV.int .i64 0), some (AV.int .i64 1), none, none, none, none, none, none, none, none, some (AV.str [46]), some (AV.int .i64 1), some (AV.bool true), some (AV.int .i64 1), some (AV.bool false), some (AV.bool false), some (AV.str [46]), some (AV.str s), some (AV.bool true), some (AV.bool true), none, none, none, none, none, none, none, none, none, none, none, none, none, none, none, none, none, none, none, none, none, none, none, none, none, none, none, none, none, none, none, none, none, none, none, none, none, none, none, none, none, none, none, none, none, none, none, none, none, none, none, none, none, none, none, none, none, none, none, none, none, none, none, none, none, none, none, none, none, none, none, none, none, none, none, none, none, none, none, none, none, none, none, none, none, none, none, none, none, none, none, none, none, none, none, none, none, none, none, none, none, none, none, none, none, none, none, none, none, none, none, none, none, none, none, none, none, none, none], []⟩, []⟩)
      (ob := [AV.int .i64 0 = AV.int .i64 (idx46 s)])
      Try.func85 (by kernel_rfl) Try.call85 (by kernel_rfl)
      ⟨rfl, boolE (by decide), eqT c1, trivial⟩
      (.inl rfl) (by kernel_rfl) ⟨idx_one c1, trivial⟩
  · exact meets_of_exec (fn := Try.f85) 0 [.reg [], .reg [(1, {val := some (AV.int .i64 1)})], .reg [(1, {val := some (AV.bool false)}), (5, {val := some (AV.bool false)})], .reg [(1, {val := some (AV.bool true)})], .reg [(2, {val := some (AV.int .u8 46)}), (3, {call := some ⟨[], [AV.str s, AV.int .u8 46], [], AV.int .i64 (idx46 s), []⟩})]] [{}]
      (r := ⟨[AV.int .i64 (List.length ([46] : List UInt8)) = AV.int .i64 1,
          AV.bool ((1 : Int) == 0) = AV.bool false,
          AV.bool ([46] == s) = AV.bool false,
          AV.bool ((1 : Int) == 1) = AV.bool true,
          0 ≤ (0 : Int),
          Option.map (fun c : UInt8 => (c.toNat : Int)) ([46])[Int.toNat (0 : Int)]? = some 46,
          [AV.str s, AV.int .u8 46] = renL [] [AV.str s, AV.int .u8 46],
          Meets Try.prog 86 [AV.str s, AV.int .u8 46] [] (AV.int .i64 (idx46 s)) []],
        .ret, ⟨[some (AV.str s), some (AV.str [46]), none, none, some (AV.int .i64 (idx46 s)), some (AV.int .i64 1), none, none, none, none, none, none, none, none, some (AV.str [46]), some (AV.int .i64 1), some (AV.bool false), some (AV.int .i64 1), some (AV.bool false), some (AV.bool false), some (AV.str [46]), some (AV.str s), some (AV.bool false), some (AV.bool false), some (AV.bool true), some (AV.int .i64 1), some (AV.bool true), some (AV.str s), some (AV.str [46]), some (AV.int .u8 46), some (AV.int .i64 (idx46 s)), none, none, none, none, none, none, none, none, none, none, none, none, none, none, none, none, none, none, none, none, none, none, none, none, none, none, none, none, none, none, none, none, none, none, none, none, none, none, none, none, none, none, none, none, none, none, none, none, none, none, none, none, none, none, none, none, none, none, none, none, none, none, none, none, none, none, none, none, none, none, none, none, none, none, none, none, none, none, none, none, none, none, none, none, none, none, none, none, none, none, none, none, none, none, none, none, none, none, none, none, none, none, none, none, none, none, none, none, none, none, none, none], []⟩, []⟩)
      (ob := [AV.int .i64 (idx46 s) = AV.int .i64 (idx46 s)])
      Try.func85 (by kernel_rfl) Try.call85 (by kernel_rfl)
      ⟨rfl, boolE (by decide), eqF c1, boolE (by decide), by decide, rfl, rfl, indexByte_meets s, trivial⟩
      (.inl rfl) (by kernel_rfl) ⟨rfl, trivial⟩

theorem cut0_meets (s : List UInt8) (hs : s.length < 1000000) : Meets Try.prog 80 [AV.str s, AV.str [46]] [] (AV.tuple [AV.str (if 0 ≤ idx46 s then s.take (idx46 s).toNat else s), AV.str (if 0 ≤ idx46 s then s.drop ((idx46 s).toNat + 1) else []), AV.bool (decide (0 ≤ idx46 s))]) [] := by
  have hg := idx46_ge s
  have hlt := idx46_lt s
  by_cases c1 : (idx46 s) ≥ 0
  · exact meets_of_exec (fn := Try.f80) 0 [.reg [], .reg [(2, {call := some ⟨[], [AV.str s, AV.str [46]], [], AV.int .i64 (idx46 s), []⟩})], .reg [(1, {val := some (AV.bool true)})], .reg [(2, {val := some (AV.str (s.take (idx46 s).toNat))}), (6, {val := some (AV.int .i64 1)}), (7, {val := some (AV.int .i64 ((idx46 s) + 1))}), (8, {val := some (AV.str (s.drop ((idx46 s).toNat + 1)))})]] [{}, {}, {}]
      (r := ⟨[[AV.str s, AV.str [46]] = renL [] [AV.str s, AV.str [46]],
          Meets Try.prog 85 [AV.str s, AV.str [46]] [] (AV.int .i64 (idx46 s)) [],
          AV.bool (decide ((idx46 s) ≥ 0)) = AV.bool true,
          0 ≤ ((idx46 s) : Int),
          (0 : Nat) ≤ (Int.toNat ((idx46 s))),
          ((Int.toNat ((idx46 s))) : Nat) ≤ s.length,
          (s.length : Nat) ≤ s.length,
          AV.str (List.take ((Int.toNat ((idx46 s))) - 0) (List.drop 0 s)) = AV.str (s.take (idx46 s).toNat),
          AV.int .i64 (List.length ([46] : List UInt8)) = AV.int .i64 1,
          AV.int .i64 (IntKind.i64.wrap ((idx46 s) + 1)) = AV.int .i64 ((idx46 s) + 1),
          0 ≤ (((idx46 s) + 1) : Int),
          ((Int.toNat (((idx46 s) + 1))) : Nat) ≤ s.length,
          (s.length : Nat) ≤ s.length,
          (s.length : Nat) ≤ s.length,
          AV.str (List.take (s.length - (Int.toNat (((idx46 s) + 1)))) (List.drop (Int.toNat (((idx46 s) + 1))) s)) = AV.str (s.drop ((idx46 s).toNat + 1))],
        .ret, ⟨[some (AV.str s), some (AV.str [46]), none, none, some (AV.str (s.take (idx46 s).toNat)), some (AV.str (s.drop ((idx46 s).toNat + 1))), some (AV.bool true), some (AV.int .i64 (idx46 s)), some (AV.str s), some (AV.str [46]), some (AV.int .i64 (idx46 s)), some (AV.int .i64 (idx46 s)), some (AV.bool true), some (AV.str s), some (AV.int .i64 (idx46 s)), some (AV.str (s.take (idx46 s).toNat)), some (AV.str s), some (AV.int .i64 (idx46 s)), some (AV.str [46]), some (AV.int .i64 1), some (AV.int .i64 ((idx46 s) + 1)), some (AV.str (s.drop ((idx46 s).toNat + 1))), none], []⟩, []⟩)
      (ob := [AV.tuple [AV.str (s.take (idx46 s).toNat), AV.str (s.drop ((idx46 s).toNat + 1)), AV.bool true] = AV.tuple [AV.str (if 0 ≤ idx46 s then s.take (idx46 s).toNat else s), AV.str (if 0 ≤ idx46 s then s.drop ((idx46 s).toNat + 1) else []), AV.bool (decide (0 ≤ idx46 s))],
          Avoid (fun n => decide (0 ≤ n)) (AV.tuple [AV.str (if 0 ≤ idx46 s then s.take (idx46 s).toNat else s), AV.str (if 0 ≤ idx46 s then s.drop ((idx46 s).toNat + 1) else []), AV.bool (decide (0 ≤ idx46 s))])])
      Try.func80 (by kernel_rfl) Try.call80 (by kernel_rfl)
      ⟨rfl, index_meets s, bT c1, by omega, by omega, by omega, by omega, strE (by simp), rfl, wI (by omega), by omega, by omega, by omega, by omega, strE (by rw [List.take_of_length_le (by simp <;> omega)]; congr 1; omega), trivial⟩
      (.inl rfl) (by kernel_rfl) ⟨by simp [*], Avoid.tuple (AvoidL.cons (Avoid.str _ _) (AvoidL.cons (Avoid.str _ _) (AvoidL.cons (Avoid.bool _ _) (AvoidL.nil _)))), trivial⟩
  · exact meets_of_exec (fn := Try.f80) 0 [.reg [], .reg [(2, {call := some ⟨[], [AV.str s, AV.str [46]], [], AV.int .i64 (idx46 s), []⟩})], .reg [(1, {val := some (AV.bool false)})], .reg []] [{}, {}, {}]
      (r := ⟨[[AV.str s, AV.str [46]] = renL [] [AV.str s, AV.str [46]],
          Meets Try.prog 85 [AV.str s, AV.str [46]] [] (AV.int .i64 (idx46 s)) [],
          AV.bool (decide ((idx46 s) ≥ 0)) = AV.bool false],
        .ret, ⟨[some (AV.str s), some (AV.str [46]), none, none, some (AV.str s), some (AV.str []), some (AV.bool false), some (AV.int .i64 (idx46 s)), some (AV.str s), some (AV.str [46]), some (AV.int .i64 (idx46 s)), some (AV.int .i64 (idx46 s)), some (AV.bool false), none, none, none, none, none, none, none, none, none, some (AV.str s)], []⟩, []⟩)
      (ob := [AV.tuple [AV.str s, AV.str [], AV.bool false] = AV.tuple [AV.str (if 0 ≤ idx46 s then s.take (idx46 s).toNat else s), AV.str (if 0 ≤ idx46 s then s.drop ((idx46 s).toNat + 1) else []), AV.bool (decide (0 ≤ idx46 s))],
          Avoid (fun n => decide (0 ≤ n)) (AV.tuple [AV.str (if 0 ≤ idx46 s then s.take (idx46 s).toNat else s), AV.str (if 0 ≤ idx46 s then s.drop ((idx46 s).toNat + 1) else []), AV.bool (decide (0 ≤ idx46 s))])])
      Try.func80 (by kernel_rfl) Try.call80 (by kernel_rfl)
      ⟨rfl, index_meets s, bF c1, trivial⟩
      (.inl rfl) (by kernel_rfl) ⟨by simp [*], Avoid.tuple (AvoidL.cons (Avoid.str _ _) (AvoidL.cons (Avoid.str _ _) (AvoidL.cons (Avoid.bool _ _) (AvoidL.nil _)))), trivial⟩

theorem cut_meets (s : List UInt8) (hs : s.length < 1000000) : Meets Try.prog 64 [AV.str s, AV.str [46]] [] (AV.tuple [AV.str (if 0 ≤ idx46 s then s.take (idx46 s).toNat else s), AV.str (if 0 ≤ idx46 s then s.drop ((idx46 s).toNat + 1) else []), AV.bool (decide (0 ≤ idx46 s))]) [] := by
  exact meets_of_exec (fn := Try.f64) 0 [.reg [], .reg [(2, {call := some ⟨[], [AV.str s, AV.str [46]], [], AV.tuple [AV.str (if 0 ≤ idx46 s then s.take (idx46 s).toNat else s), AV.str (if 0 ≤ idx46 s then s.drop ((idx46 s).toNat + 1) else []), AV.bool (decide (0 ≤ idx46 s))], []⟩})]] [{}, {}, {}]
    (r := ⟨[[AV.str s, AV.str [46]] = renL [] [AV.str s, AV.str [46]],
        Meets Try.prog 80 [AV.str s, AV.str [46]] [] (AV.tuple [AV.str (if 0 ≤ idx46 s then s.take (idx46 s).toNat else s), AV.str (if 0 ≤ idx46 s then s.drop ((idx46 s).toNat + 1) else []), AV.bool (decide (0 ≤ idx46 s))]) []],
      .ret, ⟨[some (AV.str s), some (AV.str [46]), none, none, some (AV.str (if 0 ≤ idx46 s then s.take (idx46 s).toNat else s)), some (AV.str (if 0 ≤ idx46 s then s.drop ((idx46 s).toNat + 1) else [])), some (AV.bool (decide (0 ≤ idx46 s))), some (AV.str s), some (AV.str [46]), some (AV.tuple [AV.str (if 0 ≤ idx46 s then s.take (idx46 s).toNat else s), AV.str (if 0 ≤ idx46 s then s.drop ((idx46 s).toNat + 1) else []), AV.bool (decide (0 ≤ idx46 s))]), some (AV.str (if 0 ≤ idx46 s then s.take (idx46 s).toNat else s)), some (AV.str (if 0 ≤ idx46 s then s.drop ((idx46 s).toNat + 1) else [])), some (AV.bool (decide (0 ≤ idx46 s)))], []⟩, []⟩)
    (ob := [AV.tuple [AV.str (if 0 ≤ idx46 s then s.take (idx46 s).toNat else s), AV.str (if 0 ≤ idx46 s then s.drop ((idx46 s).toNat + 1) else []), AV.bool (decide (0 ≤ idx46 s))] = AV.tuple [AV.str (if 0 ≤ idx46 s then s.take (idx46 s).toNat else s), AV.str (if 0 ≤ idx46 s then s.drop ((idx46 s).toNat + 1) else []), AV.bool (decide (0 ≤ idx46 s))],
        Avoid (fun n => decide (0 ≤ n)) (AV.tuple [AV.str (if 0 ≤ idx46 s then s.take (idx46 s).toNat else s), AV.str (if 0 ≤ idx46 s then s.drop ((idx46 s).toNat + 1) else []), AV.bool (decide (0 ≤ idx46 s))])])
    Try.func64 (by kernel_rfl) Try.call64 (by kernel_rfl)
    ⟨rfl, cut0_meets s hs, trivial⟩
    (.inl rfl) (by kernel_rfl) ⟨rfl, Avoid.tuple (AvoidL.cons (Avoid.str _ _) (AvoidL.cons (Avoid.str _ _) (AvoidL.cons (Avoid.bool _ _) (AvoidL.nil _)))), trivial⟩

theorem hasPrefix_meets (s : List UInt8) : Meets Try.prog 84 [AV.str s, AV.str [45]] [] (AV.bool (minusB s)) [] := by
  by_cases c1 : ((s.length : Nat) : Int) ≥ 1
  · exact meets_of_exec (fn := Try.f84) 0 [.reg [], .reg [(3, {val := some (AV.int .i64 1)}), (4, {val := some (AV.bool true)}), (8, {val := some (AV.int .i64 1)}), (9, {val := some (AV.str ((List.drop 0 s).take (1 - 0)))})]] [{}]
      (r := ⟨[AV.int .i64 (List.length ([45] : List UInt8)) = AV.int .i64 1,
          AV.bool (decide (((s.length : Nat) : Int) ≥ 1)) = AV.bool true,
          AV.int .i64 (List.length ([45] : List UInt8)) = AV.int .i64 1,
          0 ≤ (1 : Int),
          (0 : Nat) ≤ (Int.toNat (1 : Int)),
          ((Int.toNat (1 : Int)) : Nat) ≤ s.length,
          (s.length : Nat) ≤ s.length,
          AV.str (List.take ((Int.toNat (1 : Int)) - 0) (List.drop 0 s)) = AV.str ((List.drop 0 s).take (1 - 0))],
        .ret, ⟨[some (AV.str s), some (AV.str [45]), none, none, some (AV.bool (((List.drop 0 s).take (1 - 0)) == [45])), some (AV.str s), some (AV.int .i64 ((s.length : Nat) : Int)), some (AV.str [45]), some (AV.int .i64 1), some (AV.bool true), some (AV.bool true), some (AV.str s), some (AV.str [45]), some (AV.int .i64 1), some (AV.str ((List.drop 0 s).take (1 - 0))), some (AV.str [45]), some (AV.bool (((List.drop 0 s).take (1 - 0)) == [45])), some (AV.bool (((List.drop 0 s).take (1 - 0)) == [45]))], []⟩, []⟩)
      (ob := [AV.bool (((List.drop 0 s).take (1 - 0)) == [45]) = AV.bool (minusB s)])
      Try.func84 (by kernel_rfl) Try.call84 (by kernel_rfl)
      ⟨rfl, bT c1, rfl, by omega, by omega, by omega, by omega, strE (by simp), trivial⟩
      (.inl rfl) (by kernel_rfl) ⟨has_long c1, trivial⟩
  · exact meets_of_exec (fn := Try.f84) 0 [.reg [], .reg [(3, {val := some (AV.int .i64 1)}), (4, {val := some (AV.bool false)})]] [{}]
      (r := ⟨[AV.int .i64 (List.length ([45] : List UInt8)) = AV.int .i64 1,
          AV.bool (decide (((s.length : Nat) : Int) ≥ 1)) = AV.bool false],
        .ret, ⟨[some (AV.str s), some (AV.str [45]), none, none, some (AV.bool false), some (AV.str s), some (AV.int .i64 ((s.length : Nat) : Int)), some (AV.str [45]), some (AV.int .i64 1), some (AV.bool false), some (AV.bool false), some (AV.tuple []), some (AV.tuple []), some (AV.tuple []), some (AV.tuple []), some (AV.tuple []), some (AV.tuple []), some (AV.bool false)], []⟩, []⟩)
      (ob := [AV.bool false = AV.bool (minusB s)])
      Try.func84 (by kernel_rfl) Try.call84 (by kernel_rfl)
      ⟨rfl, bF c1, trivial⟩
      (.inl rfl) (by kernel_rfl) ⟨has_short c1, trivial⟩

theorem cutPrefix0_meets (s : List UInt8) : Meets Try.prog 79 [AV.str s, AV.str [45]] [] (AV.tuple [AV.str (if minusB s = true then s.drop 1 else s), AV.bool (minusB s)]) [] := by
  by_cases c1 : minusB s = true
  · have hp := minus_pos c1
    exact meets_of_exec (fn := Try.f79) 0 [.reg [], .reg [(2, {call := some ⟨[], [AV.str s, AV.str [45]], [], AV.bool (minusB s), []⟩, val := some (AV.bool true)}), (3, {val := some (AV.bool false)})], .reg [(2, {val := some (AV.int .i64 1)}), (3, {val := some (AV.str (s.drop 1))})]] [{}, {}]
      (r := ⟨[[AV.str s, AV.str [45]] = renL [] [AV.str s, AV.str [45]],
          Meets Try.prog 84 [AV.str s, AV.str [45]] [] (AV.bool (minusB s)) [],
          AV.ren [] (AV.bool (minusB s)) = AV.bool true,
          AV.bool (!true) = AV.bool false,
          AV.int .i64 (List.length ([45] : List UInt8)) = AV.int .i64 1,
          0 ≤ (1 : Int),
          ((Int.toNat (1 : Int)) : Nat) ≤ s.length,
          (s.length : Nat) ≤ s.length,
          (s.length : Nat) ≤ s.length,
          AV.str (List.take (s.length - (Int.toNat (1 : Int))) (List.drop (Int.toNat (1 : Int)) s)) = AV.str (s.drop 1)],
        .ret, ⟨[some (AV.str s), some (AV.str [45]), none, none, some (AV.str (s.drop 1)), some (AV.bool true), some (AV.str s), some (AV.str [45]), some (AV.bool true), some (AV.bool false), none, some (AV.str s), some (AV.str [45]), some (AV.int .i64 1), some (AV.str (s.drop 1))], []⟩, []⟩)
      (ob := [AV.tuple [AV.str (s.drop 1), AV.bool true] = AV.tuple [AV.str (if minusB s = true then s.drop 1 else s), AV.bool (minusB s)],
          Avoid (fun n => decide (0 ≤ n)) (AV.tuple [AV.str (if minusB s = true then s.drop 1 else s), AV.bool (minusB s)])])
      Try.func79 (by kernel_rfl) Try.call79 (by kernel_rfl)
      ⟨rfl, hasPrefix_meets s, boolT c1, rfl, rfl, by omega, by omega, by omega, by omega, strE (by rw [List.take_of_length_le (by simp)]; rfl), trivial⟩
      (.inl rfl) (by kernel_rfl) ⟨by simp [*], Avoid.tuple (AvoidL.cons (Avoid.str _ _) (AvoidL.cons (Avoid.bool _ _) (AvoidL.nil _))), trivial⟩
  · exact meets_of_exec (fn := Try.f79) 0 [.reg [], .reg [(2, {call := some ⟨[], [AV.str s, AV.str [45]], [], AV.bool (minusB s), []⟩, val := some (AV.bool false)}), (3, {val := some (AV.bool true)})], .reg []] [{}, {}]
      (r := ⟨[[AV.str s, AV.str [45]] = renL [] [AV.str s, AV.str [45]],
          Meets Try.prog 84 [AV.str s, AV.str [45]] [] (AV.bool (minusB s)) [],
          AV.ren [] (AV.bool (minusB s)) = AV.bool false,
          AV.bool (!false) = AV.bool true],
        .ret, ⟨[some (AV.str s), some (AV.str [45]), none, none, some (AV.str s), some (AV.bool false), some (AV.str s), some (AV.str [45]), some (AV.bool false), some (AV.bool true), some (AV.str s), none, none, none, none], []⟩, []⟩)
      (ob := [AV.tuple [AV.str s, AV.bool false] = AV.tuple [AV.str (if minusB s = true then s.drop 1 else s), AV.bool (minusB s)],
          Avoid (fun n => decide (0 ≤ n)) (AV.tuple [AV.str (if minusB s = true then s.drop 1 else s), AV.bool (minusB s)])])
      Try.func79 (by kernel_rfl) Try.call79 (by kernel_rfl)
      ⟨rfl, hasPrefix_meets s, boolF c1, rfl, trivial⟩
      (.inl rfl) (by kernel_rfl) ⟨by simp [*], Avoid.tuple (AvoidL.cons (Avoid.str _ _) (AvoidL.cons (Avoid.bool _ _) (AvoidL.nil _))), trivial⟩

theorem cutPrefix_meets (s : List UInt8) : Meets Try.prog 63 [AV.str s, AV.str [45]] [] (AV.tuple [AV.str (if minusB s = true then s.drop 1 else s), AV.bool (minusB s)]) [] := by
  exact meets_of_exec (fn := Try.f63) 0 [.reg [], .reg [(2, {call := some ⟨[], [AV.str s, AV.str [45]], [], AV.tuple [AV.str (if minusB s = true then s.drop 1 else s), AV.bool (minusB s)], []⟩})]] [{}, {}]
    (r := ⟨[[AV.str s, AV.str [45]] = renL [] [AV.str s, AV.str [45]],
        Meets Try.prog 79 [AV.str s, AV.str [45]] [] (AV.tuple [AV.str (if minusB s = true then s.drop 1 else s), AV.bool (minusB s)]) []],
      .ret, ⟨[some (AV.str s), some (AV.str [45]), none, none, some (AV.str (if minusB s = true then s.drop 1 else s)), some (AV.bool (minusB s)), some (AV.str s), some (AV.str [45]), some (AV.tuple [AV.str (if minusB s = true then s.drop 1 else s), AV.bool (minusB s)]), some (AV.str (if minusB s = true then s.drop 1 else s)), some (AV.bool (minusB s))], []⟩, []⟩)
    (ob := [AV.tuple [AV.str (if minusB s = true then s.drop 1 else s), AV.bool (minusB s)] = AV.tuple [AV.str (if minusB s = true then s.drop 1 else s), AV.bool (minusB s)],
        Avoid (fun n => decide (0 ≤ n)) (AV.tuple [AV.str (if minusB s = true then s.drop 1 else s), AV.bool (minusB s)])])
    Try.func63 (by kernel_rfl) Try.call63 (by kernel_rfl)
    ⟨rfl, cutPrefix0_meets s, trivial⟩
    (.inl rfl) (by kernel_rfl) ⟨rfl, Avoid.tuple (AvoidL.cons (Avoid.str _ _) (AvoidL.cons (Avoid.bool _ _) (AvoidL.nil _))), trivial⟩

end Go.Proofs.Ytabgphldbgdbpaa
