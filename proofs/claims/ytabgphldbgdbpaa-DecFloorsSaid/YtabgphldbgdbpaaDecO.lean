import Derived.Test.YtabgphldbgdbpaaDecN
import Derived.Test.YtabgphldbgdbpaaSxX
set_option linter.unusedVariables false
set_option linter.unusedSimpArgs false
set_option maxRecDepth 20000
namespace Go.Proofs.Ytabgphldbgdbpaa
open Go Sx Dc

theorem copyCheck_new  : Meets Try.prog 78 [AV.ptr 0 0] [AObj.cells [AV.nilptr, AV.nilslice] 75] (AV.tuple []) [AObj.cells [AV.ptr 0 0, AV.nilslice] 75] := by
  exact meets_of_exec (fn := Try.f78) 0 [.reg [(3, {val := some (AV.nilptr)})], .reg [(3, {call := some ⟨[0], [AV.ptr 0 0], [AObj.ro 0 []], AV.ptr 0 0, [AObj.ro 0 []]⟩, obj := some [AObj.cells [AV.nilptr, AV.nilslice] 75]}), (7, {obj := some [AObj.cells [AV.ptr 0 0, AV.nilslice] 75]})]] []
    (r := ⟨[0 ≤ 0,
        ([AV.nilptr, AV.nilslice] : List AV)[0 - 0]? = some (AV.nilptr),
        0 < List.length [AV.nilptr, AV.nilslice],
        [AV.ptr 0 0] = renL [0] [AV.ptr 0 0],
        Meets Try.prog 83 [AV.ptr 0 0] [AObj.ro 0 []] (AV.ptr 0 0) [AObj.ro 0 []],
        Fits (AObj.cells [AV.nilptr, AV.nilslice] 75) (AObj.ren [0] (AObj.ro 0 [])),
        updOf [0] [AObj.cells [AV.nilptr, AV.nilslice] 75] [AObj.ro 0 []] [AObj.ro 0 []] ++ List.map (fun x => x.ren [0]) (List.drop 1 [AObj.ro 0 []]) = [AObj.cells [AV.nilptr, AV.nilslice] 75],
        liesAt Try.prog Try.prog.depth 75 (List.length [AV.nilptr, AV.nilslice] / Try.prog.cellsOf 75) 0 75 1 = true,
        ([AV.ptr 0 0] : List AV).length = 1,
        0 + 1 ≤ List.length [AV.nilptr, AV.nilslice],
        AObj.cells (List.take 0 [AV.nilptr, AV.nilslice] ++ [AV.ptr 0 0] ++ List.drop (0 + 1) [AV.nilptr, AV.nilslice]) 75 = AObj.cells [AV.ptr 0 0, AV.nilslice] 75],
      .normal, ⟨[some (AV.ptr 0 0), none, some (AV.ptr 0 0), some (AV.ptr 0 0), some (AV.ptr 0 0), some (AV.nilptr), some (AV.bool true), some (AV.ptr 0 0), some (AV.ptr 0 0), some (AV.ptr 0 0), some (AV.ptr 0 0), some (AV.ptr 0 0), some (AV.ptr 0 0), some (AV.ptr 0 0), none, none, none, none, none, none], [some (AObj.cells [AV.ptr 0 0, AV.nilslice] 75)]⟩, []⟩)
    (ob := [AV.tuple [] = AV.tuple [],
        Avoid (fun n => decide (1 ≤ n)) (AV.tuple []),
        AObj.cells [AV.ptr 0 0, AV.nilslice] 75 = AObj.cells [AV.ptr 0 0, AV.nilslice] 75,
        AvoidO (fun n => decide (1 ≤ n)) (AObj.cells [AV.ptr 0 0, AV.nilslice] 75)])
    Try.func78 (by kernel_rfl) Try.call78 (by kernel_rfl)
    ⟨Nat.zero_le _, rfl, Nat.le_of_ble_eq_true rfl, rfl, meets_noescape (fn := Try.f83) Try.func83 (by kernel_rfl) (by kernel_rfl) (by kernel_rfl) (by kernel_rfl) _, fits_any _ rfl rfl, rfl, by kernel_rfl, rfl, Nat.le_of_ble_eq_true rfl, rfl, trivial⟩
    (.inr rfl) (by kernel_rfl) ⟨rfl, Avoid.tuple (AvoidL.nil _), rfl, AvoidO.cells (AvoidL.cons (Avoid.ptr rfl) (AvoidL.cons (Avoid.nilslice _) (AvoidL.nil _))), trivial⟩

theorem copyCheck_used (n : Nat) : Meets Try.prog 78 [AV.ptr 0 0] [AObj.cells [AV.ptr 0 0, AV.vec 1 n] 75, AObj.ro 0 []] (AV.tuple []) [AObj.cells [AV.ptr 0 0, AV.vec 1 n] 75, AObj.ro 0 []] := by
  exact meets_of_exec (fn := Try.f78) 0 [.reg [(3, {val := some (AV.ptr 0 0)})], .reg [(3, {val := some (AV.ptr 0 0)})]] []
    (r := ⟨[0 ≤ 0,
        ([AV.ptr 0 0, AV.vec 1 n] : List AV)[0 - 0]? = some (AV.ptr 0 0),
        0 ≤ 0,
        ([AV.ptr 0 0, AV.vec 1 n] : List AV)[0 - 0]? = some (AV.ptr 0 0)],
      .normal, ⟨[some (AV.ptr 0 0), none, some (AV.ptr 0 0), some (AV.ptr 0 0), some (AV.ptr 0 0), some (AV.ptr 0 0), some (AV.bool false), none, none, none, none, none, none, none, some (AV.ptr 0 0), some (AV.ptr 0 0), some (AV.ptr 0 0), some (AV.ptr 0 0), some (AV.ptr 0 0), some (AV.bool false)], [some (AObj.cells [AV.ptr 0 0, AV.vec 1 n] 75), some (AObj.ro 0 [])]⟩, []⟩)
    (ob := [AV.tuple [] = AV.tuple [],
        Avoid (fun n => decide (2 ≤ n)) (AV.tuple []),
        AObj.cells [AV.ptr 0 0, AV.vec 1 n] 75 = AObj.cells [AV.ptr 0 0, AV.vec 1 n] 75,
        AvoidO (fun n => decide (2 ≤ n)) (AObj.cells [AV.ptr 0 0, AV.vec 1 n] 75),
        AObj.ro 0 [] = AObj.ro 0 [],
        AvoidO (fun n => decide (2 ≤ n)) (AObj.ro 0 [])])
    Try.func78 (by kernel_rfl) Try.call78 (by kernel_rfl)
    ⟨Nat.zero_le _, rfl, Nat.zero_le _, rfl, trivial⟩
    (.inr rfl) (by kernel_rfl) ⟨rfl, Avoid.tuple (AvoidL.nil _), rfl, AvoidO.cells (AvoidL.cons (Avoid.ptr rfl) (AvoidL.cons (Avoid.vec rfl) (AvoidL.nil _))), rfl, AvoidO.ro (AvoidL.nil _), trivial⟩

theorem writeByte_new (c : Int) (hc : 0 ≤ c ∧ c < 256) : Meets Try.prog 61 [AV.ptr 0 0, AV.int .u8 c] [AObj.cells [AV.nilptr, AV.nilslice] 75] AV.niliface [AObj.cells [AV.ptr 0 0, AV.vec 1 ([UInt8.ofNat c.toNat].length)] 75, AObj.vec (u8s [UInt8.ofNat c.toNat]) 5 1] := by
  exact meets_of_exec (fn := Try.f61) 2 [.reg [], .reg [(1, {call := some ⟨[0], [AV.ptr 0 0], [AObj.cells [AV.nilptr, AV.nilslice] 75], AV.tuple [], [AObj.cells [AV.ptr 0 0, AV.nilslice] 75]⟩, obj := some [AObj.cells [AV.ptr 0 0, AV.nilslice] 75]})], .reg [(4, {val := some (AV.nilslice)}), (6, {nm := [2], obj := some [AObj.cells [AV.int .u8 c] 5]}), (7, {nm := [1], obj := some [AObj.vec (u8s [UInt8.ofNat c.toNat]) 5 1]}), (10, {obj := some [AObj.cells [AV.ptr 0 0, AV.vec 1 1] 75]})], .reg []] [{}]
    (r := ⟨[[AV.ptr 0 0] = renL [0] [AV.ptr 0 0],
        Meets Try.prog 78 [AV.ptr 0 0] [AObj.cells [AV.nilptr, AV.nilslice] 75] (AV.tuple []) [AObj.cells [AV.ptr 0 0, AV.nilslice] 75],
        Fits (AObj.cells [AV.nilptr, AV.nilslice] 75) (AObj.ren [0] (AObj.cells [AV.nilptr, AV.nilslice] 75)),
        updOf [0] [AObj.cells [AV.nilptr, AV.nilslice] 75] [AObj.cells [AV.nilptr, AV.nilslice] 75] [AObj.cells [AV.ptr 0 0, AV.nilslice] 75] ++ List.map (fun x => x.ren [0]) (List.drop 1 [AObj.cells [AV.ptr 0 0, AV.nilslice] 75]) = [AObj.cells [AV.ptr 0 0, AV.nilslice] 75],
        0 ≤ 1,
        ([AV.ptr 0 0, AV.nilslice] : List AV)[1 - 0]? = some (AV.nilslice),
        ([AV.int .u8 c] : List AV).length = 1,
        0 + 1 ≤ List.length (List.flatten (List.replicate 1 [AV.int .u8 0])),
        AObj.cells (List.take 0 (List.flatten (List.replicate 1 [AV.int .u8 0])) ++ [AV.int .u8 c] ++ List.drop 1 (List.flatten (List.replicate 1 [AV.int .u8 0]))) 5 = AObj.cells [AV.int .u8 c] 5,
        0 ≤ 0,
        0 - 0 + 1 * 1 ≤ List.length [AV.int .u8 c],
        0 < 1,
        2 * 1 * 1 ≤ 281474976710656,
        2 * 1 < 9223372036854775808,
        AObj.vec (List.take (1 * 1) (List.drop (0 - 0) [AV.int .u8 c])) 5 1 = AObj.vec (u8s [UInt8.ofNat c.toNat]) 5 1,
        ([AV.vec 1 1] : List AV).length = 1,
        1 + 1 ≤ List.length [AV.ptr 0 0, AV.nilslice],
        AObj.cells (List.take 1 [AV.ptr 0 0, AV.nilslice] ++ [AV.vec 1 1] ++ List.drop (1 + 1) [AV.ptr 0 0, AV.nilslice]) 75 = AObj.cells [AV.ptr 0 0, AV.vec 1 1] 75],
      .ret, ⟨[some (AV.ptr 0 0), some (AV.int .u8 c), none, none, some (AV.niliface), some (AV.ptr 0 0), some (AV.tuple []), some (AV.ptr 0 0), some (AV.ptr 0 0), some (AV.ptr 0 0), some (AV.ptr 0 1), some (AV.nilslice), some (AV.int .u8 c), some (AV.slice 2 0 1 1), some (AV.vec 1 1), some (AV.ptr 0 0), some (AV.ptr 0 1)], [some (AObj.cells [AV.ptr 0 0, AV.vec 1 1] 75), some (AObj.vec (u8s [UInt8.ofNat c.toNat]) 5 1), some (AObj.cells [AV.int .u8 c] 5)]⟩, []⟩)
    (ob := [AV.niliface = AV.niliface,
        AObj.cells [AV.ptr 0 0, AV.vec 1 1] 75 = AObj.cells [AV.ptr 0 0, AV.vec 1 ([UInt8.ofNat c.toNat].length)] 75,
        AvoidO (fun n => decide (2 ≤ n)) (AObj.cells [AV.ptr 0 0, AV.vec 1 ([UInt8.ofNat c.toNat].length)] 75),
        AObj.vec (u8s [UInt8.ofNat c.toNat]) 5 1 = AObj.vec (u8s [UInt8.ofNat c.toNat]) 5 1,
        AvoidO (fun n => decide (2 ≤ n)) (AObj.vec (u8s [UInt8.ofNat c.toNat]) 5 1)])
    Try.func61 (by kernel_rfl) Try.call61 (by kernel_rfl)
    ⟨rfl, copyCheck_new, Fits.refl _, rfl, Nat.zero_le _, rfl, rfl, Nat.le_of_ble_eq_true rfl, rfl, Nat.zero_le _, Nat.le_of_ble_eq_true rfl, by decide, by omega, by omega, by rw [← List.nil_append [UInt8.ofNat c.toNat], ← u8s_snoc hc]; rfl, rfl, Nat.le_of_ble_eq_true rfl, rfl, trivial⟩
    (.inl rfl) (by kernel_rfl) ⟨rfl, rfl, AvoidO.cells (AvoidL.cons (Avoid.ptr rfl) (AvoidL.cons (Avoid.vec rfl) (AvoidL.nil _))), rfl, AvoidO.vec (AvoidL.u8s _ _), trivial⟩

theorem writeByte_more (s : List UInt8) (c : Int) (hc : 0 ≤ c ∧ c < 256) (hs : s.length < 1000000) : Meets Try.prog 61 [AV.ptr 0 0, AV.int .u8 c] [AObj.cells [AV.ptr 0 0, AV.vec 1 s.length] 75, AObj.vec (u8s s) 5 1] AV.niliface [AObj.cells [AV.ptr 0 0, AV.vec 2 ((s ++ [UInt8.ofNat c.toNat]).length)] 75, AObj.dead, AObj.vec (u8s (s ++ [UInt8.ofNat c.toNat])) 5 1] := by
  exact meets_of_exec (fn := Try.f61) 2 [.reg [], .reg [(1, {call := some ⟨[0, 1], [AV.ptr 0 0], [AObj.cells [AV.ptr 0 0, AV.vec 1 s.length] 75, AObj.ro 0 []], AV.tuple [], [AObj.cells [AV.ptr 0 0, AV.vec 1 s.length] 75, AObj.ro 0 []]⟩, obj := some [AObj.cells [AV.ptr 0 0, AV.vec 1 s.length] 75, AObj.vec (u8s s) 5 1]})], .reg [(4, {val := some (AV.vec 1 s.length)}), (6, {nm := [3], obj := some [AObj.cells [AV.int .u8 c] 5]}), (7, {nm := [2], obj := some [AObj.vec (u8s (s ++ [UInt8.ofNat c.toNat])) 5 1]}), (10, {obj := some [AObj.cells [AV.ptr 0 0, AV.vec 2 (s.length + 1)] 75]})], .reg []] [{}]
    (r := ⟨[[AV.ptr 0 0] = renL [0, 1] [AV.ptr 0 0],
        Meets Try.prog 78 [AV.ptr 0 0] [AObj.cells [AV.ptr 0 0, AV.vec 1 s.length] 75, AObj.ro 0 []] (AV.tuple []) [AObj.cells [AV.ptr 0 0, AV.vec 1 s.length] 75, AObj.ro 0 []],
        Fits (AObj.cells [AV.ptr 0 0, AV.vec 1 s.length] 75) (AObj.ren [0, 1] (AObj.cells [AV.ptr 0 0, AV.vec 1 s.length] 75)),
        Fits (AObj.vec (u8s s) 5 1) (AObj.ren [0, 1] (AObj.ro 0 [])),
        updOf [0, 1] [AObj.cells [AV.ptr 0 0, AV.vec 1 s.length] 75, AObj.vec (u8s s) 5 1] [AObj.cells [AV.ptr 0 0, AV.vec 1 s.length] 75, AObj.ro 0 []] [AObj.cells [AV.ptr 0 0, AV.vec 1 s.length] 75, AObj.ro 0 []] ++ List.map (fun x => x.ren [0, 1]) (List.drop 2 [AObj.cells [AV.ptr 0 0, AV.vec 1 s.length] 75, AObj.ro 0 []]) = [AObj.cells [AV.ptr 0 0, AV.vec 1 s.length] 75, AObj.vec (u8s s) 5 1],
        0 ≤ 1,
        ([AV.ptr 0 0, AV.vec 1 s.length] : List AV)[1 - 0]? = some (AV.vec 1 s.length),
        ([AV.int .u8 c] : List AV).length = 1,
        0 + 1 ≤ List.length (List.flatten (List.replicate 1 [AV.int .u8 0])),
        AObj.cells (List.take 0 (List.flatten (List.replicate 1 [AV.int .u8 0])) ++ [AV.int .u8 c] ++ List.drop 1 (List.flatten (List.replicate 1 [AV.int .u8 0]))) 5 = AObj.cells [AV.int .u8 c] 5,
        0 ≤ 0,
        0 - 0 + 1 * 1 ≤ List.length [AV.int .u8 c],
        List.length (u8s s) = s.length * 1,
        2 * (s.length + 1) * 1 ≤ 281474976710656,
        2 * (s.length + 1) < 9223372036854775808,
        AObj.vec ((u8s s) ++ (List.take (1 * 1) (List.drop (0 - 0) [AV.int .u8 c]))) 5 1 = AObj.vec (u8s (s ++ [UInt8.ofNat c.toNat])) 5 1,
        ([AV.vec 2 (s.length + 1)] : List AV).length = 1,
        1 + 1 ≤ List.length [AV.ptr 0 0, AV.vec 1 s.length],
        AObj.cells (List.take 1 [AV.ptr 0 0, AV.vec 1 s.length] ++ [AV.vec 2 (s.length + 1)] ++ List.drop (1 + 1) [AV.ptr 0 0, AV.vec 1 s.length]) 75 = AObj.cells [AV.ptr 0 0, AV.vec 2 (s.length + 1)] 75],
      .ret, ⟨[some (AV.ptr 0 0), some (AV.int .u8 c), none, none, some (AV.niliface), some (AV.ptr 0 0), some (AV.tuple []), some (AV.ptr 0 0), some (AV.ptr 0 0), some (AV.ptr 0 0), some (AV.ptr 0 1), some (AV.vec 1 s.length), some (AV.int .u8 c), some (AV.slice 3 0 1 1), some (AV.vec 2 (s.length + 1)), some (AV.ptr 0 0), some (AV.ptr 0 1)], [some (AObj.cells [AV.ptr 0 0, AV.vec 2 (s.length + 1)] 75), some (AObj.dead), some (AObj.vec (u8s (s ++ [UInt8.ofNat c.toNat])) 5 1), some (AObj.cells [AV.int .u8 c] 5)]⟩, []⟩)
    (ob := [AV.niliface = AV.niliface,
        AObj.cells [AV.ptr 0 0, AV.vec 2 (s.length + 1)] 75 = AObj.cells [AV.ptr 0 0, AV.vec 2 ((s ++ [UInt8.ofNat c.toNat]).length)] 75,
        AvoidO (fun n => decide (3 ≤ n)) (AObj.cells [AV.ptr 0 0, AV.vec 2 ((s ++ [UInt8.ofNat c.toNat]).length)] 75),
        AObj.vec (u8s (s ++ [UInt8.ofNat c.toNat])) 5 1 = AObj.vec (u8s (s ++ [UInt8.ofNat c.toNat])) 5 1,
        AvoidO (fun n => decide (3 ≤ n)) (AObj.vec (u8s (s ++ [UInt8.ofNat c.toNat])) 5 1)])
    Try.func61 (by kernel_rfl) Try.call61 (by kernel_rfl)
    ⟨rfl, copyCheck_used s.length, Fits.refl _, fits_any _ rfl rfl, rfl, Nat.zero_le _, rfl, rfl, Nat.le_of_ble_eq_true rfl, rfl, Nat.zero_le _, Nat.le_of_ble_eq_true rfl, (by simp only [List.length_cons, List.length_nil, List.length_append, ints_length, u8s_length, List.length_replicate, List.length_set, List.length_map, digs_length] <;> omega), by omega, by omega, congrArg (fun z => AObj.vec z 5 1) (u8s_snoc hc), rfl, Nat.le_of_ble_eq_true rfl, rfl, trivial⟩
    (.inl rfl) (by kernel_rfl) ⟨rfl, by simp, AvoidO.cells (AvoidL.cons (Avoid.ptr rfl) (AvoidL.cons (Avoid.vec rfl) (AvoidL.nil _))), rfl, AvoidO.vec (AvoidL.u8s _ _), trivial⟩

theorem builderString_meets (s : List UInt8) (h0 : s ≠ []) (hs : s.length < 1000000) : Meets Try.prog 62 [AV.ptr 0 0] [AObj.cells [AV.ptr 0 0, AV.vec 1 s.length] 75, AObj.vec (u8s s) 5 1] (AV.str s) [AObj.cells [AV.ptr 0 0, AV.vec 1 s.length] 75, AObj.dead] := by
  exact meets_of_exec (fn := Try.f62) 0 [.reg [], .reg [(3, {val := some (AV.vec 1 s.length)}), (8, {val := some (AV.vec 1 s.length)}), (10, {val := some (AV.str s)})]] [{}]
    (r := ⟨[0 ≤ 1,
        ([AV.ptr 0 0, AV.vec 1 s.length] : List AV)[1 - 0]? = some (AV.vec 1 s.length),
        0 < List.length (u8s s),
        0 ≤ 1,
        ([AV.ptr 0 0, AV.vec 1 s.length] : List AV)[1 - 0]? = some (AV.vec 1 s.length),
        u8s s = u8s s,
        ((s.length : Nat) : Int) = ((s.length : Nat) : Int),
        s ≠ [],
        s.length < 9223372036854775808],
      .ret, ⟨[some (AV.ptr 0 0), none, some (AV.str s), some (AV.ptr 0 0), some (AV.ptr 0 0), some (AV.ptr 0 1), some (AV.vec 1 s.length), some (AV.ptr 1 0), some (AV.ptr 0 0), some (AV.ptr 0 0), some (AV.ptr 0 1), some (AV.vec 1 s.length), some (AV.int .i64 ((s.length : Nat) : Int)), some (AV.str s)], [some (AObj.cells [AV.ptr 0 0, AV.vec 1 s.length] 75), some (AObj.dead)]⟩, []⟩)
    (ob := [AV.str s = AV.str s,
        AObj.cells [AV.ptr 0 0, AV.vec 1 s.length] 75 = AObj.cells [AV.ptr 0 0, AV.vec 1 s.length] 75,
        AvoidO (fun n => decide (2 ≤ n)) (AObj.cells [AV.ptr 0 0, AV.vec 1 s.length] 75)])
    Try.func62 (by kernel_rfl) Try.call62 (by kernel_rfl)
    ⟨Nat.zero_le _, rfl, by rw [u8s_length]; exact List.length_pos_iff.2 h0, Nat.zero_le _, rfl, rfl, rfl, h0, by omega, trivial⟩
    (.inl rfl) (by kernel_rfl) ⟨rfl, rfl, AvoidO.cells (AvoidL.cons (Avoid.ptr rfl) (AvoidL.cons (Avoid.vec rfl) (AvoidL.nil _))), trivial⟩

end Go.Proofs.Ytabgphldbgdbpaa
