import Derived.Test.YtabgphldbgdbpaaDecP
set_option linter.unusedVariables false
set_option linter.unusedSimpArgs false
set_option maxRecDepth 20000
namespace Go.Proofs.Ytabgphldbgdbpaa
open Go Sx Dc

theorem meets_indexByteString {P : Program} {f : FuncId} {fn : Func} (hf : P.funcs[f]? = some fn) (h1 : (fn.name == "runtime.NumGoroutine") = false) (h2 : fn.body.isNone = true) (h3 : Extern.findNext fn = none) (h4 : Extern.find fn = some Extern.BytealgIndexByte.indexByte) (s : List UInt8) (c : Int) :
    Meets P f [.str s, .int .u8 c] [] (.int .i64 (Lib.indexByte s c.toNat.toUInt8)) [] := by
  intro w E vs hvs hp
  simp only [denL, den, Option.some.injEq] at hvs
  subst hvs
  refine .inr ⟨_, w, ?_, E, _, rfl, rfl, PostR.same hp⟩
  rw [run_callFunc_extern hf h1 h2 h3 (e := Extern.BytealgIndexByte.indexByte) h4]
  have := Lib.run_indexByteString (P := P) ⟨s.toArray⟩ c w
  simp only [this]
  rfl
def idx46 (s : List UInt8) : Int := Lib.indexByte s 46
theorem idx46_ge (s : List UInt8) : -1 ≤ idx46 s := Lib.indexByte_ge s 46
theorem idx46_lt : ∀ (s : List UInt8), idx46 s < s.length
  | [] => by simp [idx46, Lib.indexByte]
  | b :: s => by
    have ih := idx46_lt s
    have hg := idx46_ge s
    unfold idx46 at *
    rw [Lib.indexByte, List.length_cons]
    split
    · omega
    · split <;> omega
theorem idx_one {s : List UInt8} (h : [46] = s) : AV.int .i64 0 = AV.int .i64 (idx46 s) := by subst h; rfl
/-- Is there a minus ahead? -/
def minusB (s : List UInt8) : Bool := decide (s.head? = some 45)
theorem has_short {s : List UInt8} (c : ¬ ((s.length : Nat) : Int) ≥ 1) : AV.bool false = AV.bool (minusB s) := by
  cases s with
  | nil => rfl
  | cons a s => simp at c; omega
theorem has_long {s : List UInt8} (c : ((s.length : Nat) : Int) ≥ 1) : AV.bool ((List.drop 0 s).take (1 - 0) == [45]) = AV.bool (minusB s) := by
  cases s with
  | nil => simp at c
  | cons a s => simp [minusB]; rw [Bool.eq_iff_iff]; simp
theorem minus_pos {s : List UInt8} (h : minusB s = true) : 1 ≤ s.length := by
  cases s with
  | nil => simp [minusB] at h
  | cons a s => simp

theorem indexByte_meets (s : List UInt8) : Meets Try.prog 86 [jS s, jU 46] [] (jI (idx46 s)) [] := by
  exact meets_run (fn := Try.f86) 0 [rG [], rG [(2, {call := some ⟨[], [jS s, jU 46], [], jI (Lib.indexByte s (Int.toNat 46).toUInt8), []⟩, val := some (jI (idx46 s))})]] [{}] Try.func86 (by kernel_rfl) Try.call86
    (oA (oC (show Meets Try.prog 90 [jS s, jU 46] [] (jI (Lib.indexByte s (Int.toNat 46).toUInt8)) [] from meets_indexByteString (fn := Try.f90) Try.func90 (by kernel_rfl) (by kernel_rfl) (by kernel_rfl) (by kernel_rfl) s 46) rfl) <| oS (show AV.ren [] (jI (Lib.indexByte s (Int.toNat 46).toUInt8)) = jI (idx46 s) from rfl))
    (oS (@rfl _ (jI (idx46 s)))) (by kernel_rfl)

theorem index_meets (s : List UInt8) : Meets Try.prog 85 [jS s, jS [46]] [] (jI (idx46 s)) [] := by
  have o1 := oA (oS (show AV.int .i64 (List.length ([46] : List UInt8)) = jI 1 from rfl)) <| oS (show AV.bool ((1 : Int) == 0) = jB false from boolE (by decide))
  let q1 : List Orc := [rG [], rG [hhI 1 1]]
  by_cases c1 : [46] = s
  · exact meets_run (fn := Try.f85) 0 (q1 ++ [rG [hhB 1 false, hhB 5 true], rG []]) [{}] Try.func85 (by kernel_rfl) Try.call85
      (oA o1 <| oS (eqT c1))
      (oS (show jI 0 = jI (idx46 s) from idx_one c1)) (by kernel_rfl)
  · exact meets_run (fn := Try.f85) 0 (q1 ++ [rG [hhB 1 false, hhB 5 false], rG [hhB 1 true], rG [hhV 2 (jU 46), hhM 3 (indexByte_meets s)]]) [{}] Try.func85 (by kernel_rfl) Try.call85
      (oA o1 <| oA (oS (eqF c1)) <| oA (oS (show AV.bool ((1 : Int) == 1) = jB true from boolE (by decide))) <| oA (oS (show 0 ≤ (0 : Int) from by decide)) <| oA (oS (show Option.map (fun c : UInt8 => (c.toNat : Int)) ([46])[Int.toNat (0 : Int)]? = some 46 from rfl)) <| oC (indexByte_meets s) rfl)
      (oS (@rfl _ (jI (idx46 s)))) (by kernel_rfl)

theorem cut0_meets (s : List UInt8) (hs : s.length < 1000000) : Meets Try.prog 80 [jS s, jS [46]] [] (jT [jS (if 0 ≤ idx46 s then s.take (idx46 s).toNat else s), jS (if 0 ≤ idx46 s then s.drop ((idx46 s).toNat + 1) else []), jB (decide (0 ≤ idx46 s))]) [] := by
  have hg := idx46_ge s
  have hlt := idx46_lt s
  let q1 : List Orc := [rG [], rG [hhM 2 (index_meets s)]]
  by_cases c1 : (idx46 s) ≥ 0
  · exact meets_run (fn := Try.f80) 0 (q1 ++ [rG [hhB 1 true], rG [hhV 2 (jS (s.take (idx46 s).toNat)), hhI 6 1, hhI 7 ((idx46 s) + 1), hhV 8 (jS (s.drop ((idx46 s).toNat + 1)))]]) [{}, {}, {}] Try.func80 (by kernel_rfl) Try.call80
      (oA (oC (index_meets s) rfl) <| oA (oS (bT c1)) <| oA (oS (show 0 ≤ ((idx46 s) : Int) from by omega)) <| oA (oS (show (0 : Nat) ≤ (Int.toNat ((idx46 s))) from by omega)) <| oA (oS (show ((Int.toNat ((idx46 s))) : Nat) ≤ s.length from by omega)) <| oA (oS (show (s.length : Nat) ≤ s.length from by omega)) <| oA (oS (show AV.str (List.take ((Int.toNat ((idx46 s))) - 0) (List.drop 0 s)) = jS (s.take (idx46 s).toNat) from strE (by simp))) <| oA (oS (show AV.int .i64 (List.length ([46] : List UInt8)) = jI 1 from rfl)) <| oA (oWs ((idx46 s) + 1) (by omega)) <| oA (oS (show 0 ≤ (((idx46 s) + 1) : Int) from by omega)) <| oA (oS (show ((Int.toNat (((idx46 s) + 1))) : Nat) ≤ s.length from by omega)) <| oA (oS (show (s.length : Nat) ≤ s.length from by omega)) <| oA (oS (show (s.length : Nat) ≤ s.length from by omega)) <| oS (show AV.str (List.take (s.length - (Int.toNat (((idx46 s) + 1)))) (List.drop (Int.toNat (((idx46 s) + 1))) s)) = jS (s.drop ((idx46 s).toNat + 1)) from strE (by rw [List.take_of_length_le (by simp <;> omega)]; congr 1; omega)))
      (oA (oS (show jT [jS (s.take (idx46 s).toNat), jS (s.drop ((idx46 s).toNat + 1)), jB true] = jT [jS (if 0 ≤ idx46 s then s.take (idx46 s).toNat else s), jS (if 0 ≤ idx46 s then s.drop ((idx46 s).toNat + 1) else []), jB (decide (0 ≤ idx46 s))] from by simp [*])) <| oV (D := (fun n => decide (0 ≤ n))) (jT [jS (if 0 ≤ idx46 s then s.take (idx46 s).toNat else s), jS (if 0 ≤ idx46 s then s.drop ((idx46 s).toNat + 1) else []), jB (decide (0 ≤ idx46 s))]) rfl) (by kernel_rfl)
  · exact meets_run (fn := Try.f80) 0 (q1 ++ [rG [hhB 1 false], rG []]) [{}, {}, {}] Try.func80 (by kernel_rfl) Try.call80
      (oA (oC (index_meets s) rfl) <| oS (bF c1))
      (oA (oS (show jT [jS s, jS [], jB false] = jT [jS (if 0 ≤ idx46 s then s.take (idx46 s).toNat else s), jS (if 0 ≤ idx46 s then s.drop ((idx46 s).toNat + 1) else []), jB (decide (0 ≤ idx46 s))] from by simp [*])) <| oV (D := (fun n => decide (0 ≤ n))) (jT [jS (if 0 ≤ idx46 s then s.take (idx46 s).toNat else s), jS (if 0 ≤ idx46 s then s.drop ((idx46 s).toNat + 1) else []), jB (decide (0 ≤ idx46 s))]) rfl) (by kernel_rfl)

theorem cut_meets (s : List UInt8) (hs : s.length < 1000000) : Meets Try.prog 64 [jS s, jS [46]] [] (jT [jS (if 0 ≤ idx46 s then s.take (idx46 s).toNat else s), jS (if 0 ≤ idx46 s then s.drop ((idx46 s).toNat + 1) else []), jB (decide (0 ≤ idx46 s))]) [] := by
  exact meets_run (fn := Try.f64) 0 [rG [], rG [hhM 2 (cut0_meets s hs)]] [{}, {}, {}] Try.func64 (by kernel_rfl) Try.call64
    (oC (cut0_meets s hs) rfl)
    (oA (oS (@rfl _ (jT [jS (if 0 ≤ idx46 s then s.take (idx46 s).toNat else s), jS (if 0 ≤ idx46 s then s.drop ((idx46 s).toNat + 1) else []), jB (decide (0 ≤ idx46 s))]))) <| oV (D := (fun n => decide (0 ≤ n))) (jT [jS (if 0 ≤ idx46 s then s.take (idx46 s).toNat else s), jS (if 0 ≤ idx46 s then s.drop ((idx46 s).toNat + 1) else []), jB (decide (0 ≤ idx46 s))]) rfl) (by kernel_rfl)

theorem hasPrefix_meets (s : List UInt8) : Meets Try.prog 84 [jS s, jS [45]] [] (jB (minusB s)) [] := by
  let q1 : List Orc := [rG []]
  by_cases c1 : ((s.length : Nat) : Int) ≥ 1
  · exact meets_run (fn := Try.f84) 0 (q1 ++ [rG [hhI 3 1, hhB 4 true, hhI 8 1, hhV 9 (jS ((List.drop 0 s).take (1 - 0)))]]) [{}] Try.func84 (by kernel_rfl) Try.call84
      (oA (oS (show AV.int .i64 (List.length ([45] : List UInt8)) = jI 1 from rfl)) <| oA (oS (bT c1)) <| oA (oS (show AV.int .i64 (List.length ([45] : List UInt8)) = jI 1 from rfl)) <| oA (oS (show 0 ≤ (1 : Int) from by omega)) <| oA (oS (show (0 : Nat) ≤ (Int.toNat (1 : Int)) from by omega)) <| oA (oS (show ((Int.toNat (1 : Int)) : Nat) ≤ s.length from by omega)) <| oA (oS (show (s.length : Nat) ≤ s.length from by omega)) <| oS (show AV.str (List.take ((Int.toNat (1 : Int)) - 0) (List.drop 0 s)) = jS ((List.drop 0 s).take (1 - 0)) from strE (by simp)))
      (oS (show jB (((List.drop 0 s).take (1 - 0)) == [45]) = jB (minusB s) from has_long c1)) (by kernel_rfl)
  · exact meets_run (fn := Try.f84) 0 (q1 ++ [rG [hhI 3 1, hhB 4 false]]) [{}] Try.func84 (by kernel_rfl) Try.call84
      (oA (oS (show AV.int .i64 (List.length ([45] : List UInt8)) = jI 1 from rfl)) <| oS (bF c1))
      (oS (show jB false = jB (minusB s) from has_short c1)) (by kernel_rfl)

theorem cutPrefix0_meets (s : List UInt8) : Meets Try.prog 79 [jS s, jS [45]] [] (jT [jS (if minusB s = true then s.drop 1 else s), jB (minusB s)]) [] := by
  by_cases c1 : minusB s = true
  · have hp := minus_pos c1
    exact meets_run (fn := Try.f79) 0 [rG [], rG [hhMB 2 (hasPrefix_meets s) true, hhB 3 false], rG [hhI 2 1, hhV 3 (jS (s.drop 1))]] [{}, {}] Try.func79 (by kernel_rfl) Try.call79
      (oA (oC (hasPrefix_meets s) rfl) <| oA (oS (boolT c1)) <| oA (oS (show AV.bool (!true) = jB false from rfl)) <| oA (oS (show AV.int .i64 (List.length ([45] : List UInt8)) = jI 1 from rfl)) <| oA (oS (show 0 ≤ (1 : Int) from by omega)) <| oA (oS (show ((Int.toNat (1 : Int)) : Nat) ≤ s.length from by omega)) <| oA (oS (show (s.length : Nat) ≤ s.length from by omega)) <| oA (oS (show (s.length : Nat) ≤ s.length from by omega)) <| oS (show AV.str (List.take (s.length - (Int.toNat (1 : Int))) (List.drop (Int.toNat (1 : Int)) s)) = jS (s.drop 1) from strE (by rw [List.take_of_length_le (by simp)]; rfl)))
      (oA (oS (show jT [jS (s.drop 1), jB true] = jT [jS (if minusB s = true then s.drop 1 else s), jB (minusB s)] from by simp [*])) <| oV (D := (fun n => decide (0 ≤ n))) (jT [jS (if minusB s = true then s.drop 1 else s), jB (minusB s)]) rfl) (by kernel_rfl)
  · exact meets_run (fn := Try.f79) 0 [rG [], rG [hhMB 2 (hasPrefix_meets s) false, hhB 3 true], rG []] [{}, {}] Try.func79 (by kernel_rfl) Try.call79
      (oA (oC (hasPrefix_meets s) rfl) <| oA (oS (boolF c1)) <| oS (show AV.bool (!false) = jB true from rfl))
      (oA (oS (show jT [jS s, jB false] = jT [jS (if minusB s = true then s.drop 1 else s), jB (minusB s)] from by simp [*])) <| oV (D := (fun n => decide (0 ≤ n))) (jT [jS (if minusB s = true then s.drop 1 else s), jB (minusB s)]) rfl) (by kernel_rfl)

theorem cutPrefix_meets (s : List UInt8) : Meets Try.prog 63 [jS s, jS [45]] [] (jT [jS (if minusB s = true then s.drop 1 else s), jB (minusB s)]) [] := by
  exact meets_run (fn := Try.f63) 0 [rG [], rG [hhM 2 (cutPrefix0_meets s)]] [{}, {}] Try.func63 (by kernel_rfl) Try.call63
    (oC (cutPrefix0_meets s) rfl)
    (oA (oS (@rfl _ (jT [jS (if minusB s = true then s.drop 1 else s), jB (minusB s)]))) <| oV (D := (fun n => decide (0 ≤ n))) (jT [jS (if minusB s = true then s.drop 1 else s), jB (minusB s)]) rfl) (by kernel_rfl)

end Go.Proofs.Ytabgphldbgdbpaa
