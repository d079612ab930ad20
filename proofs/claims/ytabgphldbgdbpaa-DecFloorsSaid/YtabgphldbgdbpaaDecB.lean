import Derived.Test.YtabgphldbgdbpaaSxV
import Derived.Test.YtabgphldbgdbpaaRows
import Derived.Test.YtabgphldbgdbpaaDecA
set_option linter.unusedVariables false
set_option linter.unusedSimpArgs false
set_option maxRecDepth 20000
namespace Go.Proofs.Ytabgphldbgdbpaa
open Go Sx Dc

theorem size_meets (n : Int) (h : -9223372036854775808 < n ∧ n < 9223372036854775808) : Meets Try.prog 52 [AV.int .i64 n] [] (AV.int .i64 ((n.natAbs : Nat) : Int)) [] := by
  by_cases c1 : n < 0
  · exact meets_of_exec (fn := Try.f52) 0 [.reg [], .reg [(1, {val := some (AV.bool true)})], .reg [(1, {val := some (AV.int .i64 (-n))})]] [{}]
      (r := ⟨[AV.bool (decide (n < 0)) = AV.bool true,
          AV.int .i64 (IntKind.i64.wrap (0 - n)) = AV.int .i64 (-n)],
        .ret, ⟨[some (AV.int .i64 n), none, some (AV.int .i64 (-n)), some (AV.int .i64 n), some (AV.bool true), some (AV.int .i64 n), some (AV.int .i64 (-n)), none], []⟩, []⟩)
      (ob := [AV.int .i64 (-n) = AV.int .i64 ((n.natAbs : Nat) : Int)])
      Try.func52 (by kernel_rfl) Try.call52 (by kernel_rfl)
      ⟨bT c1, wI (by omega), trivial⟩
      (.inl rfl) (by kernel_rfl) ⟨intE (by omega), trivial⟩
  · exact meets_of_exec (fn := Try.f52) 0 [.reg [], .reg [(1, {val := some (AV.bool false)})], .reg []] [{}]
      (r := ⟨[AV.bool (decide (n < 0)) = AV.bool false],
        .ret, ⟨[some (AV.int .i64 n), none, some (AV.int .i64 n), some (AV.int .i64 n), some (AV.bool false), none, none, some (AV.int .i64 n)], []⟩, []⟩)
      (ob := [AV.int .i64 n = AV.int .i64 ((n.natAbs : Nat) : Int)])
      Try.func52 (by kernel_rfl) Try.call52 (by kernel_rfl)
      ⟨bF c1, trivial⟩
      (.inl rfl) (by kernel_rfl) ⟨intE (by omega), trivial⟩

def rightB (m e : Int) : Bool := decide (-999999999999999 ≤ m ∧ m ≤ 999999999999999 ∧ -9 ≤ e ∧ e ≤ 9 ∧ (m = 0 → e = 0) ∧ (m ≠ 0 → e = 9 ∨ m.tmod 10 ≠ 0))

theorem right_meets (m e : Int) : Meets Try.prog 30 [AV.agg [AV.int .i64 m, AV.int .i64 e]] [] (AV.bool (rightB m e)) [] := by
  by_cases c1 : m < (-999999999999999)
  · exact meets_of_exec (fn := Try.f30) 1 [.reg [(0, {nm := [0]})], .reg [(1, {val := some (AV.int .i64 m)}), (2, {val := some (AV.bool true)})], .reg []] [{}]
      (r := ⟨[0 ≤ 0,
          ([AV.int .i64 m, AV.int .i64 e] : List AV)[0 - 0]? = some (AV.int .i64 m),
          AV.bool (decide (m < (-999999999999999))) = AV.bool true],
        .ret, ⟨[some (AV.agg [AV.int .i64 m, AV.int .i64 e]), some (AV.ptr 0 0), some (AV.bool false), some (AV.ptr 0 0), some (AV.int .i64 m), some (AV.bool true), some (AV.bool true), some (AV.tuple []), some (AV.tuple []), some (AV.tuple []), some (AV.bool true), some (AV.bool true), some (AV.tuple []), some (AV.tuple []), some (AV.tuple []), some (AV.bool true), some (AV.bool true), some (AV.tuple []), some (AV.tuple []), some (AV.tuple []), some (AV.bool true), none, none, none, none, none, none, none, none, none, none, none, none, none, none, none], [some (AObj.cells [AV.int .i64 m, AV.int .i64 e] 23)]⟩, []⟩)
      (ob := [AV.bool false = AV.bool (rightB m e)])
      Try.func30 (by kernel_rfl) Try.call30 (by kernel_rfl)
      ⟨Nat.zero_le _, rfl, bT c1, trivial⟩
      (.inl rfl) (by kernel_rfl) ⟨boolE (by rw [Bool.eq_iff_iff]; simp [rightB]; omega), trivial⟩
  · by_cases c2 : m > 999999999999999
    · exact meets_of_exec (fn := Try.f30) 1 [.reg [(0, {nm := [0]})], .reg [(1, {val := some (AV.int .i64 m)}), (2, {val := some (AV.bool false)}), (5, {val := some (AV.int .i64 m)}), (6, {val := some (AV.bool true)})], .reg []] [{}]
        (r := ⟨[0 ≤ 0,
            ([AV.int .i64 m, AV.int .i64 e] : List AV)[0 - 0]? = some (AV.int .i64 m),
            AV.bool (decide (m < (-999999999999999))) = AV.bool false,
            0 ≤ 0,
            ([AV.int .i64 m, AV.int .i64 e] : List AV)[0 - 0]? = some (AV.int .i64 m),
            AV.bool (decide (m > 999999999999999)) = AV.bool true],
          .ret, ⟨[some (AV.agg [AV.int .i64 m, AV.int .i64 e]), some (AV.ptr 0 0), some (AV.bool false), some (AV.ptr 0 0), some (AV.int .i64 m), some (AV.bool false), some (AV.bool false), some (AV.ptr 0 0), some (AV.int .i64 m), some (AV.bool true), some (AV.bool true), some (AV.bool true), some (AV.tuple []), some (AV.tuple []), some (AV.tuple []), some (AV.bool true), some (AV.bool true), some (AV.tuple []), some (AV.tuple []), some (AV.tuple []), some (AV.bool true), none, none, none, none, none, none, none, none, none, none, none, none, none, none, none], [some (AObj.cells [AV.int .i64 m, AV.int .i64 e] 23)]⟩, []⟩)
        (ob := [AV.bool false = AV.bool (rightB m e)])
        Try.func30 (by kernel_rfl) Try.call30 (by kernel_rfl)
        ⟨Nat.zero_le _, rfl, bF c1, Nat.zero_le _, rfl, bT c2, trivial⟩
        (.inl rfl) (by kernel_rfl) ⟨boolE (by rw [Bool.eq_iff_iff]; simp [rightB]; omega), trivial⟩
    · by_cases c3 : e < (-9)
      · exact meets_of_exec (fn := Try.f30) 1 [.reg [(0, {nm := [0]})], .reg [(1, {val := some (AV.int .i64 m)}), (2, {val := some (AV.bool false)}), (5, {val := some (AV.int .i64 m)}), (6, {val := some (AV.bool false)}), (10, {val := some (AV.int .i64 e)}), (11, {val := some (AV.bool true)})], .reg []] [{}]
          (r := ⟨[0 ≤ 0,
              ([AV.int .i64 m, AV.int .i64 e] : List AV)[0 - 0]? = some (AV.int .i64 m),
              AV.bool (decide (m < (-999999999999999))) = AV.bool false,
              0 ≤ 0,
              ([AV.int .i64 m, AV.int .i64 e] : List AV)[0 - 0]? = some (AV.int .i64 m),
              AV.bool (decide (m > 999999999999999)) = AV.bool false,
              0 ≤ 1,
              ([AV.int .i64 m, AV.int .i64 e] : List AV)[1 - 0]? = some (AV.int .i64 e),
              AV.bool (decide (e < (-9))) = AV.bool true],
            .ret, ⟨[some (AV.agg [AV.int .i64 m, AV.int .i64 e]), some (AV.ptr 0 0), some (AV.bool false), some (AV.ptr 0 0), some (AV.int .i64 m), some (AV.bool false), some (AV.bool false), some (AV.ptr 0 0), some (AV.int .i64 m), some (AV.bool false), some (AV.bool false), some (AV.bool false), some (AV.ptr 0 1), some (AV.int .i64 e), some (AV.bool true), some (AV.bool true), some (AV.bool true), some (AV.tuple []), some (AV.tuple []), some (AV.tuple []), some (AV.bool true), none, none, none, none, none, none, none, none, none, none, none, none, none, none, none], [some (AObj.cells [AV.int .i64 m, AV.int .i64 e] 23)]⟩, []⟩)
          (ob := [AV.bool false = AV.bool (rightB m e)])
          Try.func30 (by kernel_rfl) Try.call30 (by kernel_rfl)
          ⟨Nat.zero_le _, rfl, bF c1, Nat.zero_le _, rfl, bF c2, Nat.zero_le _, rfl, bT c3, trivial⟩
          (.inl rfl) (by kernel_rfl) ⟨boolE (by rw [Bool.eq_iff_iff]; simp [rightB]; omega), trivial⟩
      · by_cases c4 : e > 9
        · exact meets_of_exec (fn := Try.f30) 1 [.reg [(0, {nm := [0]})], .reg [(1, {val := some (AV.int .i64 m)}), (2, {val := some (AV.bool false)}), (5, {val := some (AV.int .i64 m)}), (6, {val := some (AV.bool false)}), (10, {val := some (AV.int .i64 e)}), (11, {val := some (AV.bool false)}), (15, {val := some (AV.int .i64 e)}), (16, {val := some (AV.bool true)})], .reg []] [{}]
            (r := ⟨[0 ≤ 0,
                ([AV.int .i64 m, AV.int .i64 e] : List AV)[0 - 0]? = some (AV.int .i64 m),
                AV.bool (decide (m < (-999999999999999))) = AV.bool false,
                0 ≤ 0,
                ([AV.int .i64 m, AV.int .i64 e] : List AV)[0 - 0]? = some (AV.int .i64 m),
                AV.bool (decide (m > 999999999999999)) = AV.bool false,
                0 ≤ 1,
                ([AV.int .i64 m, AV.int .i64 e] : List AV)[1 - 0]? = some (AV.int .i64 e),
                AV.bool (decide (e < (-9))) = AV.bool false,
                0 ≤ 1,
                ([AV.int .i64 m, AV.int .i64 e] : List AV)[1 - 0]? = some (AV.int .i64 e),
                AV.bool (decide (e > 9)) = AV.bool true],
              .ret, ⟨[some (AV.agg [AV.int .i64 m, AV.int .i64 e]), some (AV.ptr 0 0), some (AV.bool false), some (AV.ptr 0 0), some (AV.int .i64 m), some (AV.bool false), some (AV.bool false), some (AV.ptr 0 0), some (AV.int .i64 m), some (AV.bool false), some (AV.bool false), some (AV.bool false), some (AV.ptr 0 1), some (AV.int .i64 e), some (AV.bool false), some (AV.bool false), some (AV.bool false), some (AV.ptr 0 1), some (AV.int .i64 e), some (AV.bool true), some (AV.bool true), none, none, none, none, none, none, none, none, none, none, none, none, none, none, none], [some (AObj.cells [AV.int .i64 m, AV.int .i64 e] 23)]⟩, []⟩)
            (ob := [AV.bool false = AV.bool (rightB m e)])
            Try.func30 (by kernel_rfl) Try.call30 (by kernel_rfl)
            ⟨Nat.zero_le _, rfl, bF c1, Nat.zero_le _, rfl, bF c2, Nat.zero_le _, rfl, bF c3, Nat.zero_le _, rfl, bT c4, trivial⟩
            (.inl rfl) (by kernel_rfl) ⟨boolE (by rw [Bool.eq_iff_iff]; simp [rightB]; omega), trivial⟩
        · by_cases c5 : m = 0
          · exact meets_of_exec (fn := Try.f30) 1 [.reg [(0, {nm := [0]})], .reg [(1, {val := some (AV.int .i64 m)}), (2, {val := some (AV.bool false)}), (5, {val := some (AV.int .i64 m)}), (6, {val := some (AV.bool false)}), (10, {val := some (AV.int .i64 e)}), (11, {val := some (AV.bool false)}), (15, {val := some (AV.int .i64 e)}), (16, {val := some (AV.bool false)})], .reg [(1, {val := some (AV.int .i64 m)}), (2, {val := some (AV.bool true)})], .reg [(1, {val := some (AV.int .i64 e)})]] [{}]
              (r := ⟨[0 ≤ 0,
                  ([AV.int .i64 m, AV.int .i64 e] : List AV)[0 - 0]? = some (AV.int .i64 m),
                  AV.bool (decide (m < (-999999999999999))) = AV.bool false,
                  0 ≤ 0,
                  ([AV.int .i64 m, AV.int .i64 e] : List AV)[0 - 0]? = some (AV.int .i64 m),
                  AV.bool (decide (m > 999999999999999)) = AV.bool false,
                  0 ≤ 1,
                  ([AV.int .i64 m, AV.int .i64 e] : List AV)[1 - 0]? = some (AV.int .i64 e),
                  AV.bool (decide (e < (-9))) = AV.bool false,
                  0 ≤ 1,
                  ([AV.int .i64 m, AV.int .i64 e] : List AV)[1 - 0]? = some (AV.int .i64 e),
                  AV.bool (decide (e > 9)) = AV.bool false,
                  0 ≤ 0,
                  ([AV.int .i64 m, AV.int .i64 e] : List AV)[0 - 0]? = some (AV.int .i64 m),
                  AV.bool (m == 0) = AV.bool true,
                  0 ≤ 1,
                  ([AV.int .i64 m, AV.int .i64 e] : List AV)[1 - 0]? = some (AV.int .i64 e)],
                .ret, ⟨[some (AV.agg [AV.int .i64 m, AV.int .i64 e]), some (AV.ptr 0 0), some (AV.bool (e == 0)), some (AV.ptr 0 0), some (AV.int .i64 m), some (AV.bool false), some (AV.bool false), some (AV.ptr 0 0), some (AV.int .i64 m), some (AV.bool false), some (AV.bool false), some (AV.bool false), some (AV.ptr 0 1), some (AV.int .i64 e), some (AV.bool false), some (AV.bool false), some (AV.bool false), some (AV.ptr 0 1), some (AV.int .i64 e), some (AV.bool false), some (AV.bool false), some (AV.ptr 0 0), some (AV.int .i64 m), some (AV.bool true), some (AV.ptr 0 1), some (AV.int .i64 e), some (AV.bool (e == 0)), none, none, none, none, none, none, none, none, none], [some (AObj.cells [AV.int .i64 m, AV.int .i64 e] 23)]⟩, []⟩)
              (ob := [AV.bool (e == 0) = AV.bool (rightB m e)])
              Try.func30 (by kernel_rfl) Try.call30 (by kernel_rfl)
              ⟨Nat.zero_le _, rfl, bF c1, Nat.zero_le _, rfl, bF c2, Nat.zero_le _, rfl, bF c3, Nat.zero_le _, rfl, bF c4, Nat.zero_le _, rfl, eqT c5, Nat.zero_le _, rfl, trivial⟩
              (.inl rfl) (by kernel_rfl) ⟨boolE (by rw [Bool.eq_iff_iff]; simp [rightB]; omega), trivial⟩
          · by_cases c6 : e = 9
            · exact meets_of_exec (fn := Try.f30) 1 [.reg [(0, {nm := [0]})], .reg [(1, {val := some (AV.int .i64 m)}), (2, {val := some (AV.bool false)}), (5, {val := some (AV.int .i64 m)}), (6, {val := some (AV.bool false)}), (10, {val := some (AV.int .i64 e)}), (11, {val := some (AV.bool false)}), (15, {val := some (AV.int .i64 e)}), (16, {val := some (AV.bool false)})], .reg [(1, {val := some (AV.int .i64 m)}), (2, {val := some (AV.bool false)})], .reg [(1, {val := some (AV.int .i64 e)}), (2, {val := some (AV.bool true)})]] [{}]
                (r := ⟨[0 ≤ 0,
                    ([AV.int .i64 m, AV.int .i64 e] : List AV)[0 - 0]? = some (AV.int .i64 m),
                    AV.bool (decide (m < (-999999999999999))) = AV.bool false,
                    0 ≤ 0,
                    ([AV.int .i64 m, AV.int .i64 e] : List AV)[0 - 0]? = some (AV.int .i64 m),
                    AV.bool (decide (m > 999999999999999)) = AV.bool false,
                    0 ≤ 1,
                    ([AV.int .i64 m, AV.int .i64 e] : List AV)[1 - 0]? = some (AV.int .i64 e),
                    AV.bool (decide (e < (-9))) = AV.bool false,
                    0 ≤ 1,
                    ([AV.int .i64 m, AV.int .i64 e] : List AV)[1 - 0]? = some (AV.int .i64 e),
                    AV.bool (decide (e > 9)) = AV.bool false,
                    0 ≤ 0,
                    ([AV.int .i64 m, AV.int .i64 e] : List AV)[0 - 0]? = some (AV.int .i64 m),
                    AV.bool (m == 0) = AV.bool false,
                    0 ≤ 1,
                    ([AV.int .i64 m, AV.int .i64 e] : List AV)[1 - 0]? = some (AV.int .i64 e),
                    AV.bool (e == 9) = AV.bool true],
                  .ret, ⟨[some (AV.agg [AV.int .i64 m, AV.int .i64 e]), some (AV.ptr 0 0), some (AV.bool true), some (AV.ptr 0 0), some (AV.int .i64 m), some (AV.bool false), some (AV.bool false), some (AV.ptr 0 0), some (AV.int .i64 m), some (AV.bool false), some (AV.bool false), some (AV.bool false), some (AV.ptr 0 1), some (AV.int .i64 e), some (AV.bool false), some (AV.bool false), some (AV.bool false), some (AV.ptr 0 1), some (AV.int .i64 e), some (AV.bool false), some (AV.bool false), some (AV.ptr 0 0), some (AV.int .i64 m), some (AV.bool false), none, none, none, some (AV.ptr 0 1), some (AV.int .i64 e), some (AV.bool true), some (AV.bool true), some (AV.tuple []), some (AV.tuple []), some (AV.tuple []), some (AV.tuple []), some (AV.bool true)], [some (AObj.cells [AV.int .i64 m, AV.int .i64 e] 23)]⟩, []⟩)
                (ob := [AV.bool true = AV.bool (rightB m e)])
                Try.func30 (by kernel_rfl) Try.call30 (by kernel_rfl)
                ⟨Nat.zero_le _, rfl, bF c1, Nat.zero_le _, rfl, bF c2, Nat.zero_le _, rfl, bF c3, Nat.zero_le _, rfl, bF c4, Nat.zero_le _, rfl, eqF c5, Nat.zero_le _, rfl, eqT c6, trivial⟩
                (.inl rfl) (by kernel_rfl) ⟨boolE (by rw [Bool.eq_iff_iff]; simp [rightB]; omega), trivial⟩
            · exact meets_of_exec (fn := Try.f30) 1 [.reg [(0, {nm := [0]})], .reg [(1, {val := some (AV.int .i64 m)}), (2, {val := some (AV.bool false)}), (5, {val := some (AV.int .i64 m)}), (6, {val := some (AV.bool false)}), (10, {val := some (AV.int .i64 e)}), (11, {val := some (AV.bool false)}), (15, {val := some (AV.int .i64 e)}), (16, {val := some (AV.bool false)})], .reg [(1, {val := some (AV.int .i64 m)}), (2, {val := some (AV.bool false)})], .reg [(1, {val := some (AV.int .i64 e)}), (2, {val := some (AV.bool false)}), (5, {val := some (AV.int .i64 m)})]] [{}]
                (r := ⟨[0 ≤ 0,
                    ([AV.int .i64 m, AV.int .i64 e] : List AV)[0 - 0]? = some (AV.int .i64 m),
                    AV.bool (decide (m < (-999999999999999))) = AV.bool false,
                    0 ≤ 0,
                    ([AV.int .i64 m, AV.int .i64 e] : List AV)[0 - 0]? = some (AV.int .i64 m),
                    AV.bool (decide (m > 999999999999999)) = AV.bool false,
                    0 ≤ 1,
                    ([AV.int .i64 m, AV.int .i64 e] : List AV)[1 - 0]? = some (AV.int .i64 e),
                    AV.bool (decide (e < (-9))) = AV.bool false,
                    0 ≤ 1,
                    ([AV.int .i64 m, AV.int .i64 e] : List AV)[1 - 0]? = some (AV.int .i64 e),
                    AV.bool (decide (e > 9)) = AV.bool false,
                    0 ≤ 0,
                    ([AV.int .i64 m, AV.int .i64 e] : List AV)[0 - 0]? = some (AV.int .i64 m),
                    AV.bool (m == 0) = AV.bool false,
                    0 ≤ 1,
                    ([AV.int .i64 m, AV.int .i64 e] : List AV)[1 - 0]? = some (AV.int .i64 e),
                    AV.bool (e == 9) = AV.bool false,
                    0 ≤ 0,
                    ([AV.int .i64 m, AV.int .i64 e] : List AV)[0 - 0]? = some (AV.int .i64 m),
                    (10 : Int) ≠ 0],
                  .ret, ⟨[some (AV.agg [AV.int .i64 m, AV.int .i64 e]), some (AV.ptr 0 0), some (AV.bool ((m.tmod 10) != 0)), some (AV.ptr 0 0), some (AV.int .i64 m), some (AV.bool false), some (AV.bool false), some (AV.ptr 0 0), some (AV.int .i64 m), some (AV.bool false), some (AV.bool false), some (AV.bool false), some (AV.ptr 0 1), some (AV.int .i64 e), some (AV.bool false), some (AV.bool false), some (AV.bool false), some (AV.ptr 0 1), some (AV.int .i64 e), some (AV.bool false), some (AV.bool false), some (AV.ptr 0 0), some (AV.int .i64 m), some (AV.bool false), none, none, none, some (AV.ptr 0 1), some (AV.int .i64 e), some (AV.bool false), some (AV.bool false), some (AV.ptr 0 0), some (AV.int .i64 m), some (AV.int .i64 (m.tmod 10)), some (AV.bool ((m.tmod 10) != 0)), some (AV.bool ((m.tmod 10) != 0))], [some (AObj.cells [AV.int .i64 m, AV.int .i64 e] 23)]⟩, []⟩)
                (ob := [AV.bool ((m.tmod 10) != 0) = AV.bool (rightB m e)])
                Try.func30 (by kernel_rfl) Try.call30 (by kernel_rfl)
                ⟨Nat.zero_le _, rfl, bF c1, Nat.zero_le _, rfl, bF c2, Nat.zero_le _, rfl, bF c3, Nat.zero_le _, rfl, bF c4, Nat.zero_le _, rfl, eqF c5, Nat.zero_le _, rfl, eqF c6, Nat.zero_le _, rfl, by decide, trivial⟩
                (.inl rfl) (by kernel_rfl) ⟨boolE (by rw [Bool.eq_iff_iff]; simp [rightB]; omega), trivial⟩

def trimD : Nat → Int → Int → Int × Int
  | 0, m, e => (m, e)
  | n + 1, m, e => if m.tmod 10 = 0 then trimD n (m.tdiv 10) (e + 1) else (m, e)
/-- The one form of m times ten to e. -/
def trimmedS (m e : Int) : Int × Int := if m = 0 then (0, 0) else trimD (9 - e).toNat m e

def trimmed_inv (m e : Int) : AState :=
  ⟨[some (AV.int .i64 m), some (AV.int .i64 e), none, none, some (AV.ptr 0 0), none, none, none, none, none, none, none, none, none, none, none, none, none, none, none, none, none], [some (AObj.cells [AV.int .i64 0, AV.int .i64 0] 23)]⟩

theorem trimmed_round (m e : Int) (h : -9223372036854775808 < m ∧ m < 9223372036854775808) (he : -100 ≤ e ∧ e ≤ 9) (h1 : e < 9) (h2 : m.tmod 10 = 0) : Tri Try.prog (loopN (bodyOf Try.f41) 0) (trimmed_inv m e) .normal (trimmed_inv (m.tdiv 10) (e + 1)) := by
  exact Tri.weak (ob := [AV.int .i64 (m.tdiv 10) = AV.int .i64 (m.tdiv 10),
        AV.int .i64 (e + 1) = AV.int .i64 (e + 1),
        AV.ptr 0 0 = AV.ptr 0 0,
        AObj.cells [AV.int .i64 0, AV.int .i64 0] 23 = AObj.cells [AV.int .i64 0, AV.int .i64 0] 23]) (exec_sound _ [.reg [(1, {val := some (AV.bool true)}), (5, {val := some (AV.bool true)})], .reg [(1, {val := some (AV.int .i64 (m.tdiv 10))})], .reg [(1, {val := some (AV.int .i64 (e + 1))})]] _
    ⟨[AV.bool (decide (e < 9)) = AV.bool true,
        (10 : Int) ≠ 0,
        AV.bool ((m.tmod 10) == 0) = AV.bool true,
        (10 : Int) ≠ 0,
        AV.int .i64 (IntKind.i64.wrap (m.tdiv 10)) = AV.int .i64 (m.tdiv 10),
        AV.int .i64 (IntKind.i64.wrap (e + 1)) = AV.int .i64 (e + 1)],
      .normal, ⟨[some (AV.int .i64 (m.tdiv 10)), some (AV.int .i64 (e + 1)), none, none, some (AV.ptr 0 0), none, none, none, some (AV.int .i64 e), some (AV.bool true), some (AV.bool true), some (AV.int .i64 m), some (AV.int .i64 (m.tmod 10)), some (AV.bool true), some (AV.bool true), some (AV.int .i64 m), some (AV.int .i64 (m.tdiv 10)), some (AV.int .i64 e), some (AV.int .i64 (e + 1)), none, none, none], [some (AObj.cells [AV.int .i64 0, AV.int .i64 0] 23)]⟩, []⟩ (by kernel_rfl)
    ⟨bT h1, by decide, eqT h2, by decide, tdivI (by omega), wI (by omega), trivial⟩) (by kernel_rfl)
    ⟨rfl, rfl, rfl, rfl, trivial⟩

theorem trimmed_last (m e : Int) (h : -9223372036854775808 < m ∧ m < 9223372036854775808) (he : -100 ≤ e ∧ e ≤ 9) (h1 : ¬ (e < 9 ∧ m.tmod 10 = 0)) : Tri Try.prog (loopN (bodyOf Try.f41) 0) (trimmed_inv m e) (.exit 0) (trimmed_inv m e) := by
  by_cases c1 : e < 9
  · by_cases c2 : (m.tmod 10) = 0
    · exact absurd ⟨‹_›, ‹_›⟩ h1
    · exact Tri.weak (ob := [AV.int .i64 m = AV.int .i64 m,
            AV.int .i64 e = AV.int .i64 e,
            AV.ptr 0 0 = AV.ptr 0 0,
            AObj.cells [AV.int .i64 0, AV.int .i64 0] 23 = AObj.cells [AV.int .i64 0, AV.int .i64 0] 23]) (exec_sound _ [.reg [(1, {val := some (AV.bool true)}), (5, {val := some (AV.bool false)})]] _
        ⟨[AV.bool (decide (e < 9)) = AV.bool true,
            (10 : Int) ≠ 0,
            AV.bool ((m.tmod 10) == 0) = AV.bool false],
          .exit 0, ⟨[some (AV.int .i64 m), some (AV.int .i64 e), none, none, some (AV.ptr 0 0), none, none, none, some (AV.int .i64 e), some (AV.bool true), some (AV.bool true), some (AV.int .i64 m), some (AV.int .i64 (m.tmod 10)), some (AV.bool false), some (AV.bool false), none, none, none, none, none, none, none], [some (AObj.cells [AV.int .i64 0, AV.int .i64 0] 23)]⟩, []⟩ (by kernel_rfl)
        ⟨bT c1, by decide, eqF c2, trivial⟩) (by kernel_rfl)
        ⟨rfl, rfl, rfl, rfl, trivial⟩
  · exact Tri.weak (ob := [AV.int .i64 m = AV.int .i64 m,
          AV.int .i64 e = AV.int .i64 e,
          AV.ptr 0 0 = AV.ptr 0 0,
          AObj.cells [AV.int .i64 0, AV.int .i64 0] 23 = AObj.cells [AV.int .i64 0, AV.int .i64 0] 23]) (exec_sound _ [.reg [(1, {val := some (AV.bool false)})]] _
      ⟨[AV.bool (decide (e < 9)) = AV.bool false],
        .exit 0, ⟨[some (AV.int .i64 m), some (AV.int .i64 e), none, none, some (AV.ptr 0 0), none, none, none, some (AV.int .i64 e), some (AV.bool false), some (AV.bool false), some (AV.tuple []), some (AV.tuple []), some (AV.tuple []), some (AV.bool false), none, none, none, none, none, none, none], [some (AObj.cells [AV.int .i64 0, AV.int .i64 0] 23)]⟩, []⟩ (by kernel_rfl)
      ⟨bF c1, trivial⟩) (by kernel_rfl)
      ⟨rfl, rfl, rfl, rfl, trivial⟩

theorem trimmed_loop : ∀ (n : Nat) (m e : Int), n = (9 - e).toNat → (-9223372036854775808 < m ∧ m < 9223372036854775808) → (-100 ≤ e ∧ e ≤ 9) →
    Tri Try.prog (.loop (loopN (bodyOf Try.f41) 0)) (trimmed_inv m e) (.exit 0) (trimmed_inv (trimD n m e).1 (trimD n m e).2) := by
  intro n m e hn hm he
  refine tri_loop (ι := {p : Int × Int // (-9223372036854775808 < p.1 ∧ p.1 < 9223372036854775808) ∧ (-100 ≤ p.2 ∧ p.2 ≤ 9) ∧ trimD (9 - p.2).toNat p.1 p.2 = trimD n m e}) (fun i => trimmed_inv i.1.1 i.1.2) (fun i => (9 - i.1.2).toNat) (ne_normal_exit 0) ?_ ⟨(m, e), hm, he, by rw [hn]⟩
  rintro ⟨⟨m', e'⟩, h1, h2, h3⟩
  simp only at h1 h2 h3
  by_cases hc : e' < 9 ∧ m'.tmod 10 = 0
  · have e1 : (9 - e').toNat = (9 - (e' + 1)).toNat + 1 := by omega
    rw [e1, trimD, if_pos hc.2] at h3
    have hb := tdiv_range (y := 10) h1
    exact .inl ⟨⟨(m'.tdiv 10, e' + 1), hb, by simp only; omega, h3⟩, by simp only; omega, trimmed_round m' e' h1 h2 hc.1 hc.2⟩
  · have e1 : trimD (9 - e').toNat m' e' = (m', e') := by
      by_cases h9 : e' = 9
      · rw [h9]; rfl
      · have : (9 - e').toNat = (9 - (e' + 1)).toNat + 1 := by omega
        rw [this, trimD, if_neg (by omega)]
    rw [e1] at h3
    have hx : trimmed_inv m' e' = trimmed_inv (trimD n m e).1 (trimD n m e).2 := by rw [← h3]
    exact .inr (Eq.subst (motive := fun s => Tri _ _ (trimmed_inv m' e') (.exit 0) s) hx (trimmed_last m' e' h1 h2 hc))

theorem trimmed_meets (m e : Int) (h : -9223372036854775808 < m ∧ m < 9223372036854775808) (he : -100 ≤ e ∧ e ≤ 9) : Meets Try.prog 41 [AV.int .i64 m, AV.int .i64 e] [] (AV.agg [AV.int .i64 ((trimmedS m e).1), AV.int .i64 ((trimmedS m e).2)]) [] := by
  by_cases c1 : m = 0
  · exact meets_of_exec (fn := Try.f41) 1 [.reg [(0, {nm := [0]})], .reg [(1, {val := some (AV.bool true)})], .reg [(1, {obj := some [AObj.cells [AV.int .i64 0, AV.int .i64 0] 23]})]] [{val := some (AV.agg [AV.int .i64 0, AV.int .i64 0])}]
      (r := ⟨[AV.bool (m == 0) = AV.bool true,
          ([AV.int .i64 0, AV.int .i64 0] : List AV).length = 2,
          0 + 2 ≤ List.length [AV.int .i64 0, AV.int .i64 0],
          AObj.cells (List.take 0 [AV.int .i64 0, AV.int .i64 0] ++ [AV.int .i64 0, AV.int .i64 0] ++ List.drop (0 + 2) [AV.int .i64 0, AV.int .i64 0]) 23 = AObj.cells [AV.int .i64 0, AV.int .i64 0] 23],
        .ret, ⟨[some (AV.int .i64 m), some (AV.int .i64 e), none, none, some (AV.ptr 0 0), some (AV.int .i64 m), some (AV.bool true), some (AV.agg [AV.int .i64 0, AV.int .i64 0]), none, none, none, none, none, none, none, none, none, none, none, none, none, none], [some (AObj.cells [AV.int .i64 0, AV.int .i64 0] 23)]⟩, []⟩)
      (ob := [0 ≤ 0,
          0 - 0 + 2 ≤ List.length [AV.int .i64 0, AV.int .i64 0],
          List.take 2 (List.drop (0 - 0) [AV.int .i64 0, AV.int .i64 0]) = [AV.int .i64 0, AV.int .i64 0],
          AV.agg [AV.int .i64 0, AV.int .i64 0] = AV.agg [AV.int .i64 ((trimmedS m e).1), AV.int .i64 ((trimmedS m e).2)],
          Avoid (fun n => decide (0 ≤ n)) (AV.agg [AV.int .i64 ((trimmedS m e).1), AV.int .i64 ((trimmedS m e).2)])])
      Try.func41 (by kernel_rfl) Try.call41 (by kernel_rfl)
      ⟨eqT c1, rfl, Nat.le_of_ble_eq_true rfl, rfl, trivial⟩
      (.inl rfl) (by kernel_rfl) ⟨Nat.zero_le _, Nat.le_of_ble_eq_true rfl, rfl, by simp [trimmedS, *], Avoid.agg (AvoidL.cons (Avoid.int _ _ _) (AvoidL.cons (Avoid.int _ _ _) (AvoidL.nil _))), trivial⟩
  · exact meets_of_exec (fn := Try.f41) 1 [.reg [(0, {nm := [0]})], .reg [(1, {val := some (AV.bool false)})], .loop (⟨[some (AV.int .i64 m), some (AV.int .i64 e), none, none, some (AV.ptr 0 0), none, none, none, none, none, none, none, none, none, none, none, none, none, none, none, none, none], [some (AObj.cells [AV.int .i64 0, AV.int .i64 0] 23)]⟩) (.exit 0) (⟨[some (AV.int .i64 ((trimD (9 - e).toNat m e).1)), some (AV.int .i64 ((trimD (9 - e).toNat m e).2)), none, none, some (AV.ptr 0 0), none, none, none, none, none, none, none, none, none, none, none, none, none, none, none, none, none], [some (AObj.cells [AV.int .i64 0, AV.int .i64 0] 23)]⟩), .reg [(2, {val := some (AV.agg [AV.int .i64 ((trimD (9 - e).toNat m e).1), AV.int .i64 ((trimD (9 - e).toNat m e).2)])}), (3, {obj := some [AObj.cells [AV.int .i64 ((trimD (9 - e).toNat m e).1), AV.int .i64 ((trimD (9 - e).toNat m e).2)] 23]})]] [{val := some (AV.agg [AV.int .i64 ((trimD (9 - e).toNat m e).1), AV.int .i64 ((trimD (9 - e).toNat m e).2)])}]
      (r := ⟨[AV.bool (m == 0) = AV.bool false,
          AV.int .i64 m = AV.int .i64 m,
          AV.int .i64 e = AV.int .i64 e,
          AV.ptr 0 0 = AV.ptr 0 0,
          AObj.cells [AV.int .i64 0, AV.int .i64 0] 23 = AObj.cells [AV.int .i64 0, AV.int .i64 0] 23,
          Tri Try.prog (.loop (loopN (bodyOf Try.f41) 0)) (⟨[some (AV.int .i64 m), some (AV.int .i64 e), none, none, some (AV.ptr 0 0), none, none, none, none, none, none, none, none, none, none, none, none, none, none, none, none, none], [some (AObj.cells [AV.int .i64 0, AV.int .i64 0] 23)]⟩) (.exit 0) (⟨[some (AV.int .i64 ((trimD (9 - e).toNat m e).1)), some (AV.int .i64 ((trimD (9 - e).toNat m e).2)), none, none, some (AV.ptr 0 0), none, none, none, none, none, none, none, none, none, none, none, none, none, none, none, none, none], [some (AObj.cells [AV.int .i64 0, AV.int .i64 0] 23)]⟩),
          ([AV.int .i64 ((trimD (9 - e).toNat m e).1)] : List AV).length = 1,
          0 + 1 ≤ ([AV.int .i64 0, AV.int .i64 0] : List AV).length,
          ([AV.int .i64 ((trimD (9 - e).toNat m e).2)] : List AV).length = 1,
          1 + 1 ≤ (List.take 0 [AV.int .i64 0, AV.int .i64 0] ++ [AV.int .i64 ((trimD (9 - e).toNat m e).1)] ++ List.drop 1 [AV.int .i64 0, AV.int .i64 0] : List AV).length,
          AV.agg (List.take 1 (List.take 0 [AV.int .i64 0, AV.int .i64 0] ++ [AV.int .i64 ((trimD (9 - e).toNat m e).1)] ++ List.drop 1 [AV.int .i64 0, AV.int .i64 0]) ++ [AV.int .i64 ((trimD (9 - e).toNat m e).2)] ++ List.drop 2 (List.take 0 [AV.int .i64 0, AV.int .i64 0] ++ [AV.int .i64 ((trimD (9 - e).toNat m e).1)] ++ List.drop 1 [AV.int .i64 0, AV.int .i64 0])) = AV.agg [AV.int .i64 ((trimD (9 - e).toNat m e).1), AV.int .i64 ((trimD (9 - e).toNat m e).2)],
          ([AV.int .i64 ((trimD (9 - e).toNat m e).1), AV.int .i64 ((trimD (9 - e).toNat m e).2)] : List AV).length = 2,
          0 + 2 ≤ List.length [AV.int .i64 0, AV.int .i64 0],
          AObj.cells (List.take 0 [AV.int .i64 0, AV.int .i64 0] ++ [AV.int .i64 ((trimD (9 - e).toNat m e).1), AV.int .i64 ((trimD (9 - e).toNat m e).2)] ++ List.drop (0 + 2) [AV.int .i64 0, AV.int .i64 0]) 23 = AObj.cells [AV.int .i64 ((trimD (9 - e).toNat m e).1), AV.int .i64 ((trimD (9 - e).toNat m e).2)] 23],
        .ret, ⟨[some (AV.int .i64 ((trimD (9 - e).toNat m e).1)), some (AV.int .i64 ((trimD (9 - e).toNat m e).2)), none, none, some (AV.ptr 0 0), none, none, none, none, none, none, none, none, none, none, none, none, none, none, some (AV.int .i64 ((trimD (9 - e).toNat m e).1)), some (AV.int .i64 ((trimD (9 - e).toNat m e).2)), some (AV.agg [AV.int .i64 ((trimD (9 - e).toNat m e).1), AV.int .i64 ((trimD (9 - e).toNat m e).2)])], [some (AObj.cells [AV.int .i64 ((trimD (9 - e).toNat m e).1), AV.int .i64 ((trimD (9 - e).toNat m e).2)] 23)]⟩, []⟩)
      (ob := [0 ≤ 0,
          0 - 0 + 2 ≤ List.length [AV.int .i64 ((trimD (9 - e).toNat m e).1), AV.int .i64 ((trimD (9 - e).toNat m e).2)],
          List.take 2 (List.drop (0 - 0) [AV.int .i64 ((trimD (9 - e).toNat m e).1), AV.int .i64 ((trimD (9 - e).toNat m e).2)]) = [AV.int .i64 ((trimD (9 - e).toNat m e).1), AV.int .i64 ((trimD (9 - e).toNat m e).2)],
          AV.agg [AV.int .i64 ((trimD (9 - e).toNat m e).1), AV.int .i64 ((trimD (9 - e).toNat m e).2)] = AV.agg [AV.int .i64 ((trimmedS m e).1), AV.int .i64 ((trimmedS m e).2)],
          Avoid (fun n => decide (0 ≤ n)) (AV.agg [AV.int .i64 ((trimmedS m e).1), AV.int .i64 ((trimmedS m e).2)])])
      Try.func41 (by kernel_rfl) Try.call41 (by kernel_rfl)
      ⟨eqF c1, rfl, rfl, rfl, rfl, trimmed_loop _ m e rfl h he, rfl, Nat.le_of_ble_eq_true (by kernel_rfl), rfl, Nat.le_of_ble_eq_true (by kernel_rfl), by kernel_rfl, rfl, Nat.le_of_ble_eq_true rfl, rfl, trivial⟩
      (.inl rfl) (by kernel_rfl) ⟨Nat.zero_le _, Nat.le_of_ble_eq_true rfl, rfl, by simp [trimmedS, *], Avoid.agg (AvoidL.cons (Avoid.int _ _ _) (AvoidL.cons (Avoid.int _ _ _) (AvoidL.nil _))), trivial⟩

end Go.Proofs.Ytabgphldbgdbpaa
