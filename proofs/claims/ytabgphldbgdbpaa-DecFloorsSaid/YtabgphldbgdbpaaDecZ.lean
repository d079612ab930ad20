import Derived.Test.YtabgphldbgdbpaaDecY
set_option linter.unusedVariables false
set_option linter.unusedSimpArgs false
set_option maxRecDepth 20000
namespace Go.Proofs.Ytabgphldbgdbpaa
open Go Sx Dc

/-- Which of n things a raw number speaks of. -/
def pickR (c n : Int) : Int := if c < 0 then (-(c + 1)).tmod n else c.tmod n
theorem pickR_range {c n : Int} (hn : 0 < n) : 0 ≤ pickR c n ∧ pickR c n < n := by
  unfold pickR
  split
  · exact ⟨Int.tmod_nonneg _ (by omega), Int.tmod_lt_of_pos _ hn⟩
  · exact ⟨Int.tmod_nonneg _ (by omega), Int.tmod_lt_of_pos _ hn⟩

theorem pick_meets (c n : Int) (hc : -9223372036854775808 ≤ c ∧ c < 9223372036854775808) (hn : 0 < n) : Meets Try.prog 19 [AV.int .i64 c, AV.int .i64 n] [] (AV.int .i64 (pickR c n)) [] := by
  by_cases c1 : c < 0
  · exact meets_of_exec (fn := Try.f19) 0 [.reg [], .reg [(1, {val := some (AV.bool true)})], .reg [(1, {val := some (AV.int .i64 (c + 1))}), (2, {val := some (AV.int .i64 (-(c + 1)))})], .reg []] [{}]
      (r := ⟨[AV.bool (decide (c < 0)) = AV.bool true,
          AV.int .i64 (IntKind.i64.wrap (c + 1)) = AV.int .i64 (c + 1),
          AV.int .i64 (IntKind.i64.wrap (0 - (c + 1))) = AV.int .i64 (-(c + 1)),
          (n : Int) ≠ 0],
        .ret, ⟨[some (AV.int .i64 (-(c + 1))), some (AV.int .i64 n), none, none, some (AV.int .i64 ((-(c + 1)).tmod n)), some (AV.int .i64 c), some (AV.bool true), some (AV.int .i64 c), some (AV.int .i64 (c + 1)), some (AV.int .i64 (-(c + 1))), some (AV.int .i64 (-(c + 1))), some (AV.int .i64 n), some (AV.int .i64 ((-(c + 1)).tmod n))], []⟩, []⟩)
      (ob := [AV.int .i64 ((-(c + 1)).tmod n) = AV.int .i64 (pickR c n)])
      Try.func19 (by kernel_rfl) Try.call19 (by kernel_rfl)
      ⟨bT c1, wI (by omega), wI (by omega), by omega, trivial⟩
      (.inl rfl) (by kernel_rfl) ⟨by simp [pickR, *], trivial⟩
  · exact meets_of_exec (fn := Try.f19) 0 [.reg [], .reg [(1, {val := some (AV.bool false)})], .reg []] [{}]
      (r := ⟨[AV.bool (decide (c < 0)) = AV.bool false,
          (n : Int) ≠ 0],
        .ret, ⟨[some (AV.int .i64 c), some (AV.int .i64 n), none, none, some (AV.int .i64 (c.tmod n)), some (AV.int .i64 c), some (AV.bool false), none, none, none, some (AV.int .i64 c), some (AV.int .i64 n), some (AV.int .i64 (c.tmod n))], []⟩, []⟩)
      (ob := [AV.int .i64 (c.tmod n) = AV.int .i64 (pickR c n)])
      Try.func19 (by kernel_rfl) Try.call19 (by kernel_rfl)
      ⟨bF c1, by omega, trivial⟩
      (.inl rfl) (by kernel_rfl) ⟨by simp [pickR, *], trivial⟩

theorem reright_e {m e : Int} {b : Bool} (h : b = rightB m e) : AV.bool b = AV.bool (rightB m e) := by rw [h]

theorem reright_meets (m e : Int) : Meets Try.prog 50 [AV.agg [AV.int .i64 m, AV.int .i64 e]] [] (AV.bool (rightB m e)) [] := by
  by_cases c1 : m < (-999999999999999)
  · exact meets_of_exec (fn := Try.f50) 1 [.reg [(0, {nm := [0]})], .reg [(1, {val := some (AV.int .i64 m)}), (2, {val := some (AV.bool true)})], .reg []] [{}]
      (r := ⟨[0 ≤ 0,
          ([AV.int .i64 m, AV.int .i64 e] : List AV)[0 - 0]? = some (AV.int .i64 m),
          AV.bool (decide (m < (-999999999999999))) = AV.bool true],
        .ret, ⟨[some (AV.agg [AV.int .i64 m, AV.int .i64 e]), some (AV.ptr 0 0), some (AV.bool false), some (AV.ptr 0 0), some (AV.int .i64 m), some (AV.bool true), some (AV.bool true), some (AV.tuple []), some (AV.tuple []), some (AV.tuple []), some (AV.bool true), some (AV.bool true), some (AV.tuple []), some (AV.tuple []), some (AV.tuple []), some (AV.bool true), some (AV.bool true), some (AV.tuple []), some (AV.tuple []), some (AV.tuple []), some (AV.bool true), none, none, none, none, none, none, none, none, none, none, none, none, none, none, none], [some (AObj.cells [AV.int .i64 m, AV.int .i64 e] 23)]⟩, []⟩)
      (ob := [AV.bool false = AV.bool (rightB m e)])
      Try.func50 (by kernel_rfl) Try.call50 (by kernel_rfl)
      ⟨Nat.zero_le _, rfl, bT c1, trivial⟩
      (.inl rfl) (by kernel_rfl) ⟨boolE (by rw [Bool.eq_iff_iff]; simp [rightB]; omega), trivial⟩
  · by_cases c2 : m > 999999999999999
    · exact meets_of_exec (fn := Try.f50) 1 [.reg [(0, {nm := [0]})], .reg [(1, {val := some (AV.int .i64 m)}), (2, {val := some (AV.bool false)}), (5, {val := some (AV.int .i64 m)}), (6, {val := some (AV.bool true)})], .reg []] [{}]
        (r := ⟨[0 ≤ 0,
            ([AV.int .i64 m, AV.int .i64 e] : List AV)[0 - 0]? = some (AV.int .i64 m),
            AV.bool (decide (m < (-999999999999999))) = AV.bool false,
            0 ≤ 0,
            ([AV.int .i64 m, AV.int .i64 e] : List AV)[0 - 0]? = some (AV.int .i64 m),
            AV.bool (decide (m > 999999999999999)) = AV.bool true],
          .ret, ⟨[some (AV.agg [AV.int .i64 m, AV.int .i64 e]), some (AV.ptr 0 0), some (AV.bool false), some (AV.ptr 0 0), some (AV.int .i64 m), some (AV.bool false), some (AV.bool false), some (AV.ptr 0 0), some (AV.int .i64 m), some (AV.bool true), some (AV.bool true), some (AV.bool true), some (AV.tuple []), some (AV.tuple []), some (AV.tuple []), some (AV.bool true), some (AV.bool true), some (AV.tuple []), some (AV.tuple []), some (AV.tuple []), some (AV.bool true), none, none, none, none, none, none, none, none, none, none, none, none, none, none, none], [some (AObj.cells [AV.int .i64 m, AV.int .i64 e] 23)]⟩, []⟩)
        (ob := [AV.bool false = AV.bool (rightB m e)])
        Try.func50 (by kernel_rfl) Try.call50 (by kernel_rfl)
        ⟨Nat.zero_le _, rfl, bF c1, Nat.zero_le _, rfl, bT c2, trivial⟩
        (.inl rfl) (by kernel_rfl) ⟨boolE (by rw [Bool.eq_iff_iff]; simp [rightB]; omega), trivial⟩
    · by_cases c3 : e < (-9)
      · exact meets_of_exec (fn := Try.f50) 1 [.reg [(0, {nm := [0]})], .reg [(1, {val := some (AV.int .i64 m)}), (2, {val := some (AV.bool false)}), (5, {val := some (AV.int .i64 m)}), (6, {val := some (AV.bool false)}), (10, {val := some (AV.int .i64 e)}), (11, {val := some (AV.bool true)})], .reg []] [{}]
          (r := ⟨[0 ≤ 0,
              ([AV.int .i64 m, AV.int .i64 e] : List AV)[0 - 0]? = some (AV.int .i64 m),
              AV.bool (decide (m < (-999999999999999))) = AV.bool false,
              0 ≤ 0,
              ([AV.int .i64 m, AV.int .i64 e] : List AV)[0 - 0]? = some (AV.int .i64 m),
              AV.bool (decide (m > 999999999999999)) = AV.bool false,
              0 ≤ 1,
              ([AV.int .i64 m, AV.int .i64 e] : List AV)[1 - 0]? = some (AV.int .i64 e),
              AV.bool (decide (e < (-9))) = AV.bool true],
            .ret, ⟨[some (AV.agg [AV.int .i64 m, AV.int .i64 e]), some (AV.ptr 0 0), some (AV.bool false), some (AV.ptr 0 0), some (AV.int .i64 m), some (AV.bool false), some (AV.bool false), some (AV.ptr 0 0), some (AV.int .i64 m), some (AV.bool false), some (AV.bool false), some (AV.bool false), some (AV.ptr 0 1), some (AV.int .i64 e), some (AV.bool true), some (AV.bool true), some (AV.bool true), some (AV.tuple []), some (AV.tuple []), some (AV.tuple []), some (AV.bool true), none, none, none, none, none, none, none, none, none, none, none, none, none, none, none], [some (AObj.cells [AV.int .i64 m, AV.int .i64 e] 23)]⟩, []⟩)
          (ob := [AV.bool false = AV.bool (rightB m e)])
          Try.func50 (by kernel_rfl) Try.call50 (by kernel_rfl)
          ⟨Nat.zero_le _, rfl, bF c1, Nat.zero_le _, rfl, bF c2, Nat.zero_le _, rfl, bT c3, trivial⟩
          (.inl rfl) (by kernel_rfl) ⟨boolE (by rw [Bool.eq_iff_iff]; simp [rightB]; omega), trivial⟩
      · by_cases c4 : e > 9
        · exact meets_of_exec (fn := Try.f50) 1 [.reg [(0, {nm := [0]})], .reg [(1, {val := some (AV.int .i64 m)}), (2, {val := some (AV.bool false)}), (5, {val := some (AV.int .i64 m)}), (6, {val := some (AV.bool false)}), (10, {val := some (AV.int .i64 e)}), (11, {val := some (AV.bool false)}), (15, {val := some (AV.int .i64 e)}), (16, {val := some (AV.bool true)})], .reg []] [{}]
            (r := ⟨[0 ≤ 0,
                ([AV.int .i64 m, AV.int .i64 e] : List AV)[0 - 0]? = some (AV.int .i64 m),
                AV.bool (decide (m < (-999999999999999))) = AV.bool false,
                0 ≤ 0,
                ([AV.int .i64 m, AV.int .i64 e] : List AV)[0 - 0]? = some (AV.int .i64 m),
                AV.bool (decide (m > 999999999999999)) = AV.bool false,
                0 ≤ 1,
                ([AV.int .i64 m, AV.int .i64 e] : List AV)[1 - 0]? = some (AV.int .i64 e),
                AV.bool (decide (e < (-9))) = AV.bool false,
                0 ≤ 1,
                ([AV.int .i64 m, AV.int .i64 e] : List AV)[1 - 0]? = some (AV.int .i64 e),
                AV.bool (decide (e > 9)) = AV.bool true],
              .ret, ⟨[some (AV.agg [AV.int .i64 m, AV.int .i64 e]), some (AV.ptr 0 0), some (AV.bool false), some (AV.ptr 0 0), some (AV.int .i64 m), some (AV.bool false), some (AV.bool false), some (AV.ptr 0 0), some (AV.int .i64 m), some (AV.bool false), some (AV.bool false), some (AV.bool false), some (AV.ptr 0 1), some (AV.int .i64 e), some (AV.bool false), some (AV.bool false), some (AV.bool false), some (AV.ptr 0 1), some (AV.int .i64 e), some (AV.bool true), some (AV.bool true), none, none, none, none, none, none, none, none, none, none, none, none, none, none, none], [some (AObj.cells [AV.int .i64 m, AV.int .i64 e] 23)]⟩, []⟩)
            (ob := [AV.bool false = AV.bool (rightB m e)])
            Try.func50 (by kernel_rfl) Try.call50 (by kernel_rfl)
            ⟨Nat.zero_le _, rfl, bF c1, Nat.zero_le _, rfl, bF c2, Nat.zero_le _, rfl, bF c3, Nat.zero_le _, rfl, bT c4, trivial⟩
            (.inl rfl) (by kernel_rfl) ⟨boolE (by rw [Bool.eq_iff_iff]; simp [rightB]; omega), trivial⟩
        · by_cases c5 : m = 0
          · exact meets_of_exec (fn := Try.f50) 1 [.reg [(0, {nm := [0]})], .reg [(1, {val := some (AV.int .i64 m)}), (2, {val := some (AV.bool false)}), (5, {val := some (AV.int .i64 m)}), (6, {val := some (AV.bool false)}), (10, {val := some (AV.int .i64 e)}), (11, {val := some (AV.bool false)}), (15, {val := some (AV.int .i64 e)}), (16, {val := some (AV.bool false)})], .reg [(1, {val := some (AV.int .i64 m)}), (2, {val := some (AV.bool true)})], .reg [(1, {val := some (AV.int .i64 e)})]] [{}]
              (r := ⟨[0 ≤ 0,
                  ([AV.int .i64 m, AV.int .i64 e] : List AV)[0 - 0]? = some (AV.int .i64 m),
                  AV.bool (decide (m < (-999999999999999))) = AV.bool false,
                  0 ≤ 0,
                  ([AV.int .i64 m, AV.int .i64 e] : List AV)[0 - 0]? = some (AV.int .i64 m),
                  AV.bool (decide (m > 999999999999999)) = AV.bool false,
                  0 ≤ 1,
                  ([AV.int .i64 m, AV.int .i64 e] : List AV)[1 - 0]? = some (AV.int .i64 e),
                  AV.bool (decide (e < (-9))) = AV.bool false,
                  0 ≤ 1,
                  ([AV.int .i64 m, AV.int .i64 e] : List AV)[1 - 0]? = some (AV.int .i64 e),
                  AV.bool (decide (e > 9)) = AV.bool false,
                  0 ≤ 0,
                  ([AV.int .i64 m, AV.int .i64 e] : List AV)[0 - 0]? = some (AV.int .i64 m),
                  AV.bool (m == 0) = AV.bool true,
                  0 ≤ 1,
                  ([AV.int .i64 m, AV.int .i64 e] : List AV)[1 - 0]? = some (AV.int .i64 e)],
                .ret, ⟨[some (AV.agg [AV.int .i64 m, AV.int .i64 e]), some (AV.ptr 0 0), some (AV.bool (e == 0)), some (AV.ptr 0 0), some (AV.int .i64 m), some (AV.bool false), some (AV.bool false), some (AV.ptr 0 0), some (AV.int .i64 m), some (AV.bool false), some (AV.bool false), some (AV.bool false), some (AV.ptr 0 1), some (AV.int .i64 e), some (AV.bool false), some (AV.bool false), some (AV.bool false), some (AV.ptr 0 1), some (AV.int .i64 e), some (AV.bool false), some (AV.bool false), some (AV.ptr 0 0), some (AV.int .i64 m), some (AV.bool true), some (AV.ptr 0 1), some (AV.int .i64 e), some (AV.bool (e == 0)), none, none, none, none, none, none, none, none, none], [some (AObj.cells [AV.int .i64 m, AV.int .i64 e] 23)]⟩, []⟩)
              (ob := [AV.bool (e == 0) = AV.bool (rightB m e)])
              Try.func50 (by kernel_rfl) Try.call50 (by kernel_rfl)
              ⟨Nat.zero_le _, rfl, bF c1, Nat.zero_le _, rfl, bF c2, Nat.zero_le _, rfl, bF c3, Nat.zero_le _, rfl, bF c4, Nat.zero_le _, rfl, eqT c5, Nat.zero_le _, rfl, trivial⟩
              (.inl rfl) (by kernel_rfl) ⟨boolE (by rw [Bool.eq_iff_iff]; simp [rightB]; omega), trivial⟩
          · by_cases c6 : (m.tmod 10) = 0
            · exact meets_of_exec (fn := Try.f50) 1 [.reg [(0, {nm := [0]})], .reg [(1, {val := some (AV.int .i64 m)}), (2, {val := some (AV.bool false)}), (5, {val := some (AV.int .i64 m)}), (6, {val := some (AV.bool false)}), (10, {val := some (AV.int .i64 e)}), (11, {val := some (AV.bool false)}), (15, {val := some (AV.int .i64 e)}), (16, {val := some (AV.bool false)})], .reg [(1, {val := some (AV.int .i64 m)}), (2, {val := some (AV.bool false)})], .reg [(1, {val := some (AV.int .i64 m)}), (3, {val := some (AV.bool false)}), (6, {val := some (AV.int .i64 e)})]] [{}]
                (r := ⟨[0 ≤ 0,
                    ([AV.int .i64 m, AV.int .i64 e] : List AV)[0 - 0]? = some (AV.int .i64 m),
                    AV.bool (decide (m < (-999999999999999))) = AV.bool false,
                    0 ≤ 0,
                    ([AV.int .i64 m, AV.int .i64 e] : List AV)[0 - 0]? = some (AV.int .i64 m),
                    AV.bool (decide (m > 999999999999999)) = AV.bool false,
                    0 ≤ 1,
                    ([AV.int .i64 m, AV.int .i64 e] : List AV)[1 - 0]? = some (AV.int .i64 e),
                    AV.bool (decide (e < (-9))) = AV.bool false,
                    0 ≤ 1,
                    ([AV.int .i64 m, AV.int .i64 e] : List AV)[1 - 0]? = some (AV.int .i64 e),
                    AV.bool (decide (e > 9)) = AV.bool false,
                    0 ≤ 0,
                    ([AV.int .i64 m, AV.int .i64 e] : List AV)[0 - 0]? = some (AV.int .i64 m),
                    AV.bool (m == 0) = AV.bool false,
                    0 ≤ 0,
                    ([AV.int .i64 m, AV.int .i64 e] : List AV)[0 - 0]? = some (AV.int .i64 m),
                    (10 : Int) ≠ 0,
                    AV.bool ((m.tmod 10) != 0) = AV.bool false,
                    0 ≤ 1,
                    ([AV.int .i64 m, AV.int .i64 e] : List AV)[1 - 0]? = some (AV.int .i64 e)],
                  .ret, ⟨[some (AV.agg [AV.int .i64 m, AV.int .i64 e]), some (AV.ptr 0 0), some (AV.bool (e == 9)), some (AV.ptr 0 0), some (AV.int .i64 m), some (AV.bool false), some (AV.bool false), some (AV.ptr 0 0), some (AV.int .i64 m), some (AV.bool false), some (AV.bool false), some (AV.bool false), some (AV.ptr 0 1), some (AV.int .i64 e), some (AV.bool false), some (AV.bool false), some (AV.bool false), some (AV.ptr 0 1), some (AV.int .i64 e), some (AV.bool false), some (AV.bool false), some (AV.ptr 0 0), some (AV.int .i64 m), some (AV.bool false), none, none, none, some (AV.ptr 0 0), some (AV.int .i64 m), some (AV.int .i64 (m.tmod 10)), some (AV.bool false), some (AV.bool false), some (AV.ptr 0 1), some (AV.int .i64 e), some (AV.bool (e == 9)), some (AV.bool (e == 9))], [some (AObj.cells [AV.int .i64 m, AV.int .i64 e] 23)]⟩, []⟩)
                (ob := [AV.bool (e == 9) = AV.bool (rightB m e)])
                Try.func50 (by kernel_rfl) Try.call50 (by kernel_rfl)
                ⟨Nat.zero_le _, rfl, bF c1, Nat.zero_le _, rfl, bF c2, Nat.zero_le _, rfl, bF c3, Nat.zero_le _, rfl, bF c4, Nat.zero_le _, rfl, eqF c5, Nat.zero_le _, rfl, by decide, neF c6, Nat.zero_le _, rfl, trivial⟩
                (.inl rfl) (by kernel_rfl) ⟨boolE (by rw [Bool.eq_iff_iff]; simp [rightB]; omega), trivial⟩
            · exact meets_of_exec (fn := Try.f50) 1 [.reg [(0, {nm := [0]})], .reg [(1, {val := some (AV.int .i64 m)}), (2, {val := some (AV.bool false)}), (5, {val := some (AV.int .i64 m)}), (6, {val := some (AV.bool false)}), (10, {val := some (AV.int .i64 e)}), (11, {val := some (AV.bool false)}), (15, {val := some (AV.int .i64 e)}), (16, {val := some (AV.bool false)})], .reg [(1, {val := some (AV.int .i64 m)}), (2, {val := some (AV.bool false)})], .reg [(1, {val := some (AV.int .i64 m)}), (3, {val := some (AV.bool true)})]] [{}]
                (r := ⟨[0 ≤ 0,
                    ([AV.int .i64 m, AV.int .i64 e] : List AV)[0 - 0]? = some (AV.int .i64 m),
                    AV.bool (decide (m < (-999999999999999))) = AV.bool false,
                    0 ≤ 0,
                    ([AV.int .i64 m, AV.int .i64 e] : List AV)[0 - 0]? = some (AV.int .i64 m),
                    AV.bool (decide (m > 999999999999999)) = AV.bool false,
                    0 ≤ 1,
                    ([AV.int .i64 m, AV.int .i64 e] : List AV)[1 - 0]? = some (AV.int .i64 e),
                    AV.bool (decide (e < (-9))) = AV.bool false,
                    0 ≤ 1,
                    ([AV.int .i64 m, AV.int .i64 e] : List AV)[1 - 0]? = some (AV.int .i64 e),
                    AV.bool (decide (e > 9)) = AV.bool false,
                    0 ≤ 0,
                    ([AV.int .i64 m, AV.int .i64 e] : List AV)[0 - 0]? = some (AV.int .i64 m),
                    AV.bool (m == 0) = AV.bool false,
                    0 ≤ 0,
                    ([AV.int .i64 m, AV.int .i64 e] : List AV)[0 - 0]? = some (AV.int .i64 m),
                    (10 : Int) ≠ 0,
                    AV.bool ((m.tmod 10) != 0) = AV.bool true],
                  .ret, ⟨[some (AV.agg [AV.int .i64 m, AV.int .i64 e]), some (AV.ptr 0 0), some (AV.bool true), some (AV.ptr 0 0), some (AV.int .i64 m), some (AV.bool false), some (AV.bool false), some (AV.ptr 0 0), some (AV.int .i64 m), some (AV.bool false), some (AV.bool false), some (AV.bool false), some (AV.ptr 0 1), some (AV.int .i64 e), some (AV.bool false), some (AV.bool false), some (AV.bool false), some (AV.ptr 0 1), some (AV.int .i64 e), some (AV.bool false), some (AV.bool false), some (AV.ptr 0 0), some (AV.int .i64 m), some (AV.bool false), none, none, none, some (AV.ptr 0 0), some (AV.int .i64 m), some (AV.int .i64 (m.tmod 10)), some (AV.bool true), some (AV.bool true), some (AV.tuple []), some (AV.tuple []), some (AV.tuple []), some (AV.bool true)], [some (AObj.cells [AV.int .i64 m, AV.int .i64 e] 23)]⟩, []⟩)
                (ob := [AV.bool true = AV.bool (rightB m e)])
                Try.func50 (by kernel_rfl) Try.call50 (by kernel_rfl)
                ⟨Nat.zero_le _, rfl, bF c1, Nat.zero_le _, rfl, bF c2, Nat.zero_le _, rfl, bF c3, Nat.zero_le _, rfl, bF c4, Nat.zero_le _, rfl, eqF c5, Nat.zero_le _, rfl, by decide, neT c6, trivial⟩
                (.inl rfl) (by kernel_rfl) ⟨boolE (by rw [Bool.eq_iff_iff]; simp [rightB]; omega), trivial⟩

def trimL (m e : Int) : Int × Int := if m = 0 then (m, e) else trimD (9 - e).toNat m e
theorem trimL_step {m e : Int} (h0 : m ≠ 0) (h1 : m.tmod 10 = 0) (h2 : e < 9) : trimL m e = trimL (m.tdiv 10) (e + 1) := by
  have := tmod_split h1
  unfold trimL
  rw [if_neg h0, if_neg (by omega), show (9 - e).toNat = (9 - (e + 1)).toNat + 1 by omega, trimD, if_pos h1]
theorem trimL_last {m e : Int} (h : ¬ (m ≠ 0 ∧ m.tmod 10 = 0 ∧ e < 9)) : trimL m e = (m, e) := by
  unfold trimL
  split
  · rfl
  · by_cases h9 : e < 9
    · rw [show (9 - e).toNat = (9 - (e + 1)).toNat + 1 by omega, trimD, if_neg fun k => h ⟨by assumption, k, h9⟩]
    · rw [show (9 - e).toNat = 0 by omega]; rfl
def rawM (m : Int) : Int := pickR m 1999999999999999 - 999999999999999
def rawE (e : Int) : Int := pickR e 19 - 9
theorem rawM_range (m : Int) : -999999999999999 ≤ rawM m ∧ rawM m ≤ 999999999999999 := by have := pickR_range (c := m) (n := 1999999999999999) (by omega); unfold rawM; omega
theorem rawE_range (m : Int) : -9 ≤ rawE m ∧ rawE m ≤ 9 := by have := pickR_range (c := m) (n := 19) (by omega); unfold rawE; omega
def decOfR (m e : Int) : Int × Int := if rightB m e = true then (m, e) else trimmedS (rawM m) (rawE e)
theorem decOfR_right (m e : Int) : rightB (decOfR m e).1 (decOfR m e).2 = true := by
  unfold decOfR
  split
  · assumption
  · exact trimmedS_right (rawM_range m).1 (rawM_range m).2 (rawE_range e).1 (rawE_range e).2
theorem trimD_ne : ∀ (n : Nat) (m e : Int), m ≠ 0 → (trimD n m e).1 ≠ 0
  | 0, m, e, h => h
  | n + 1, m, e, h => by
    rw [trimD]
    split
    · rename_i hc
      have := tmod_split hc
      exact trimD_ne n _ _ (by omega)
    · exact h
theorem decOf_zero {m e : Int} (c1 : ¬ rightB m e = true) (c2 : (trimL (rawM m) (rawE e)).1 = 0) : AV.agg [AV.int .i64 (trimL (rawM m) (rawE e)).1, AV.int .i64 0] = AV.agg [AV.int .i64 (decOfR m e).1, AV.int .i64 (decOfR m e).2] := by
  have : rawM m = 0 := by
    rcases Int.lt_trichotomy (rawM m) 0 with g | g | g
    · have := trimD_ne (9 - rawE e).toNat (rawM m) (rawE e) (by omega)
      unfold trimL at c2; rw [if_neg (by omega)] at c2; exact absurd c2 this
    · exact g
    · have := trimD_ne (9 - rawE e).toNat (rawM m) (rawE e) (by omega)
      unfold trimL at c2; rw [if_neg (by omega)] at c2; exact absurd c2 this
  rw [c2]
  simp [decOfR, c1, trimmedS, this]
theorem decOf_more {m e : Int} (c1 : ¬ rightB m e = true) (c2 : ¬ (trimL (rawM m) (rawE e)).1 = 0) : AV.agg [AV.int .i64 (trimL (rawM m) (rawE e)).1, AV.int .i64 (trimL (rawM m) (rawE e)).2] = AV.agg [AV.int .i64 (decOfR m e).1, AV.int .i64 (decOfR m e).2] := by
  have : rawM m ≠ 0 := fun h => c2 (by simp [trimL, h])
  simp [decOfR, c1, trimmedS, trimL, this]

def decOf_inv (am ae m e : Int) : AState :=
  ⟨[none, some (AV.ptr 0 0), some (AV.ptr 1 0), some (AV.int .i64 m), some (AV.int .i64 e), none, none, none, none, none, none, none, none, none, none, none, none, none, none, none, none, none, none, none, none, none, none, none, none, none, none, none, none, none, none, none], [some (AObj.cells [AV.int .i64 am, AV.int .i64 ae] 23), some (AObj.cells [AV.int .i64 0, AV.int .i64 0] 23)]⟩

theorem decOf_round (am ae m e : Int) (hm : -999999999999999 ≤ m ∧ m ≤ 999999999999999) (he : -9 ≤ e ∧ e ≤ 9) (h0 : m ≠ 0) (h1 : m.tmod 10 = 0) (h2 : e < 9) : Tri Try.prog (loopN (bodyOf Try.f18) 0) (decOf_inv am ae m e) .normal (decOf_inv am ae (m.tdiv 10) (e + 1)) := by
  exact Tri.weak (ob := [AV.ptr 0 0 = AV.ptr 0 0,
        AV.ptr 1 0 = AV.ptr 1 0,
        AV.int .i64 (m.tdiv 10) = AV.int .i64 (m.tdiv 10),
        AV.int .i64 (e + 1) = AV.int .i64 (e + 1),
        AObj.cells [AV.int .i64 am, AV.int .i64 ae] 23 = AObj.cells [AV.int .i64 am, AV.int .i64 ae] 23,
        AObj.cells [AV.int .i64 0, AV.int .i64 0] 23 = AObj.cells [AV.int .i64 0, AV.int .i64 0] 23]) (exec_sound _ [.reg [(1, {val := some (AV.bool true)}), (5, {val := some (AV.bool true)}), (9, {val := some (AV.bool true)})], .reg [(1, {val := some (AV.int .i64 (m.tdiv 10))})], .reg [(1, {val := some (AV.int .i64 (e + 1))})]] _
    ⟨[AV.bool (m != 0) = AV.bool true,
        (10 : Int) ≠ 0,
        AV.bool ((m.tmod 10) == 0) = AV.bool true,
        AV.bool (decide (e < 9)) = AV.bool true,
        (10 : Int) ≠ 0,
        AV.int .i64 (IntKind.i64.wrap (m.tdiv 10)) = AV.int .i64 (m.tdiv 10),
        AV.int .i64 (IntKind.i64.wrap (e + 1)) = AV.int .i64 (e + 1)],
      .normal, ⟨[none, some (AV.ptr 0 0), some (AV.ptr 1 0), some (AV.int .i64 (m.tdiv 10)), some (AV.int .i64 (e + 1)), none, none, none, none, none, none, none, none, none, none, none, some (AV.int .i64 m), some (AV.bool true), some (AV.bool true), some (AV.int .i64 m), some (AV.int .i64 (m.tmod 10)), some (AV.bool true), some (AV.bool true), some (AV.bool true), some (AV.int .i64 e), some (AV.bool true), some (AV.bool true), some (AV.int .i64 m), some (AV.int .i64 (m.tdiv 10)), some (AV.int .i64 e), some (AV.int .i64 (e + 1)), none, none, none, none, none], [some (AObj.cells [AV.int .i64 am, AV.int .i64 ae] 23), some (AObj.cells [AV.int .i64 0, AV.int .i64 0] 23)]⟩, []⟩ (by kernel_rfl)
    ⟨neT h0, by decide, eqT h1, bT h2, by decide, tdivI (by omega), wI (by omega), trivial⟩) (by kernel_rfl)
    ⟨rfl, rfl, rfl, rfl, rfl, rfl, trivial⟩

theorem decOf_last (am ae m e : Int) (hm : -999999999999999 ≤ m ∧ m ≤ 999999999999999) (he : -9 ≤ e ∧ e ≤ 9) (h : ¬ (m ≠ 0 ∧ m.tmod 10 = 0 ∧ e < 9)) : Tri Try.prog (loopN (bodyOf Try.f18) 0) (decOf_inv am ae m e) (.exit 0) (decOf_inv am ae m e) := by
  by_cases c1 : m = 0
  · exact Tri.weak (ob := [AV.ptr 0 0 = AV.ptr 0 0,
          AV.ptr 1 0 = AV.ptr 1 0,
          AV.int .i64 m = AV.int .i64 m,
          AV.int .i64 e = AV.int .i64 e,
          AObj.cells [AV.int .i64 am, AV.int .i64 ae] 23 = AObj.cells [AV.int .i64 am, AV.int .i64 ae] 23,
          AObj.cells [AV.int .i64 0, AV.int .i64 0] 23 = AObj.cells [AV.int .i64 0, AV.int .i64 0] 23]) (exec_sound _ [.reg [(1, {val := some (AV.bool false)})]] _
      ⟨[AV.bool (m != 0) = AV.bool false],
        .exit 0, ⟨[none, some (AV.ptr 0 0), some (AV.ptr 1 0), some (AV.int .i64 m), some (AV.int .i64 e), none, none, none, none, none, none, none, none, none, none, none, some (AV.int .i64 m), some (AV.bool false), some (AV.bool false), some (AV.tuple []), some (AV.tuple []), some (AV.tuple []), some (AV.bool false), some (AV.bool false), some (AV.tuple []), some (AV.tuple []), some (AV.bool false), none, none, none, none, none, none, none, none, none], [some (AObj.cells [AV.int .i64 am, AV.int .i64 ae] 23), some (AObj.cells [AV.int .i64 0, AV.int .i64 0] 23)]⟩, []⟩ (by kernel_rfl)
      ⟨neF c1, trivial⟩) (by kernel_rfl)
      ⟨rfl, rfl, rfl, rfl, rfl, rfl, trivial⟩
  · by_cases c2 : (m.tmod 10) = 0
    · by_cases c3 : e < 9
      · exact absurd ⟨‹_›, ‹_›, ‹_›⟩ h
      · exact Tri.weak (ob := [AV.ptr 0 0 = AV.ptr 0 0,
              AV.ptr 1 0 = AV.ptr 1 0,
              AV.int .i64 m = AV.int .i64 m,
              AV.int .i64 e = AV.int .i64 e,
              AObj.cells [AV.int .i64 am, AV.int .i64 ae] 23 = AObj.cells [AV.int .i64 am, AV.int .i64 ae] 23,
              AObj.cells [AV.int .i64 0, AV.int .i64 0] 23 = AObj.cells [AV.int .i64 0, AV.int .i64 0] 23]) (exec_sound _ [.reg [(1, {val := some (AV.bool true)}), (5, {val := some (AV.bool true)}), (9, {val := some (AV.bool false)})]] _
          ⟨[AV.bool (m != 0) = AV.bool true,
              (10 : Int) ≠ 0,
              AV.bool ((m.tmod 10) == 0) = AV.bool true,
              AV.bool (decide (e < 9)) = AV.bool false],
            .exit 0, ⟨[none, some (AV.ptr 0 0), some (AV.ptr 1 0), some (AV.int .i64 m), some (AV.int .i64 e), none, none, none, none, none, none, none, none, none, none, none, some (AV.int .i64 m), some (AV.bool true), some (AV.bool true), some (AV.int .i64 m), some (AV.int .i64 (m.tmod 10)), some (AV.bool true), some (AV.bool true), some (AV.bool true), some (AV.int .i64 e), some (AV.bool false), some (AV.bool false), none, none, none, none, none, none, none, none, none], [some (AObj.cells [AV.int .i64 am, AV.int .i64 ae] 23), some (AObj.cells [AV.int .i64 0, AV.int .i64 0] 23)]⟩, []⟩ (by kernel_rfl)
          ⟨neT c1, by decide, eqT c2, bF c3, trivial⟩) (by kernel_rfl)
          ⟨rfl, rfl, rfl, rfl, rfl, rfl, trivial⟩
    · exact Tri.weak (ob := [AV.ptr 0 0 = AV.ptr 0 0,
            AV.ptr 1 0 = AV.ptr 1 0,
            AV.int .i64 m = AV.int .i64 m,
            AV.int .i64 e = AV.int .i64 e,
            AObj.cells [AV.int .i64 am, AV.int .i64 ae] 23 = AObj.cells [AV.int .i64 am, AV.int .i64 ae] 23,
            AObj.cells [AV.int .i64 0, AV.int .i64 0] 23 = AObj.cells [AV.int .i64 0, AV.int .i64 0] 23]) (exec_sound _ [.reg [(1, {val := some (AV.bool true)}), (5, {val := some (AV.bool false)})]] _
        ⟨[AV.bool (m != 0) = AV.bool true,
            (10 : Int) ≠ 0,
            AV.bool ((m.tmod 10) == 0) = AV.bool false],
          .exit 0, ⟨[none, some (AV.ptr 0 0), some (AV.ptr 1 0), some (AV.int .i64 m), some (AV.int .i64 e), none, none, none, none, none, none, none, none, none, none, none, some (AV.int .i64 m), some (AV.bool true), some (AV.bool true), some (AV.int .i64 m), some (AV.int .i64 (m.tmod 10)), some (AV.bool false), some (AV.bool false), some (AV.bool false), some (AV.tuple []), some (AV.tuple []), some (AV.bool false), none, none, none, none, none, none, none, none, none], [some (AObj.cells [AV.int .i64 am, AV.int .i64 ae] 23), some (AObj.cells [AV.int .i64 0, AV.int .i64 0] 23)]⟩, []⟩ (by kernel_rfl)
        ⟨neT c1, by decide, eqF c2, trivial⟩) (by kernel_rfl)
        ⟨rfl, rfl, rfl, rfl, rfl, rfl, trivial⟩

theorem decOf_loop (am ae : Int) (m0 e0 : Int) (hm : -999999999999999 ≤ m0 ∧ m0 ≤ 999999999999999) (he : -9 ≤ e0 ∧ e0 ≤ 9) : Tri Try.prog (.loop (loopN (bodyOf Try.f18) 0)) (decOf_inv am ae m0 e0) (.exit 0) (decOf_inv am ae (trimL m0 e0).1 (trimL m0 e0).2) := by
  refine tri_loop (ι := {p : Int × Int // (-999999999999999 ≤ p.1 ∧ p.1 ≤ 999999999999999) ∧ (-9 ≤ p.2 ∧ p.2 ≤ 9) ∧ trimL p.1 p.2 = trimL m0 e0}) (fun i => decOf_inv am ae i.1.1 i.1.2) (fun i => (9 - i.1.2).toNat) (ne_normal_exit 0) ?_ ⟨(m0, e0), hm, he, rfl⟩
  rintro ⟨⟨m, e⟩, h1, h2, h3⟩
  simp only at h1 h2 h3
  by_cases hc : m ≠ 0 ∧ m.tmod 10 = 0 ∧ e < 9
  · have := tmod_split hc.2.1
    exact .inl ⟨⟨(m.tdiv 10, e + 1), by simp only; omega, by simp only; omega, by rw [← h3]; exact (trimL_step hc.1 hc.2.1 hc.2.2).symm⟩, by simp only; omega, decOf_round am ae m e h1 h2 hc.1 hc.2.1 hc.2.2⟩
  · have hx : decOf_inv am ae m e = decOf_inv am ae (trimL m0 e0).1 (trimL m0 e0).2 := by rw [← h3, trimL_last hc]
    exact .inr (Eq.subst (motive := fun s => Tri _ _ (decOf_inv am ae m e) (.exit 0) s) hx (decOf_last am ae m e h1 h2 hc))

theorem decOf_meets (am ae : Int) (ham : -9223372036854775808 ≤ am ∧ am < 9223372036854775808) (hae : -9223372036854775808 ≤ ae ∧ ae < 9223372036854775808) : Meets Try.prog 18 [AV.agg [AV.int .i64 am, AV.int .i64 ae]] [] (AV.agg [AV.int .i64 ((decOfR am ae).1), AV.int .i64 ((decOfR am ae).2)]) [] := by
  have hp := pickR_range (c := am) (n := 1999999999999999) (by omega)
  have hq := pickR_range (c := ae) (n := 19) (by omega)
  by_cases c1 : rightB am ae = true
  · exact meets_of_exec (fn := Try.f18) 2 [.reg [(0, {nm := [0]}), (1, {nm := [1]})], .reg [(0, {val := some (AV.agg [AV.int .i64 am, AV.int .i64 ae])}), (1, {call := some ⟨[], [AV.agg [AV.int .i64 am, AV.int .i64 ae]], [], AV.bool (rightB am ae), []⟩, val := some (AV.bool true)})], .reg [(0, {val := some (AV.agg [AV.int .i64 am, AV.int .i64 ae])}), (1, {obj := some [AObj.cells [AV.int .i64 am, AV.int .i64 ae] 23]})]] [{val := some (AV.agg [AV.int .i64 am, AV.int .i64 ae])}]
      (r := ⟨[0 ≤ 0,
          0 - 0 + 2 ≤ List.length [AV.int .i64 am, AV.int .i64 ae],
          List.take 2 (List.drop (0 - 0) [AV.int .i64 am, AV.int .i64 ae]) = [AV.int .i64 am, AV.int .i64 ae],
          [AV.agg [AV.int .i64 am, AV.int .i64 ae]] = renL [] [AV.agg [AV.int .i64 am, AV.int .i64 ae]],
          Meets Try.prog 50 [AV.agg [AV.int .i64 am, AV.int .i64 ae]] [] (AV.bool (rightB am ae)) [],
          AV.ren [] (AV.bool (rightB am ae)) = AV.bool true,
          0 ≤ 0,
          0 - 0 + 2 ≤ List.length [AV.int .i64 am, AV.int .i64 ae],
          List.take 2 (List.drop (0 - 0) [AV.int .i64 am, AV.int .i64 ae]) = [AV.int .i64 am, AV.int .i64 ae],
          ([AV.int .i64 am, AV.int .i64 ae] : List AV).length = 2,
          0 + 2 ≤ List.length [AV.int .i64 0, AV.int .i64 0],
          AObj.cells (List.take 0 [AV.int .i64 0, AV.int .i64 0] ++ [AV.int .i64 am, AV.int .i64 ae] ++ List.drop (0 + 2) [AV.int .i64 0, AV.int .i64 0]) 23 = AObj.cells [AV.int .i64 am, AV.int .i64 ae] 23],
        .ret, ⟨[some (AV.agg [AV.int .i64 am, AV.int .i64 ae]), some (AV.ptr 0 0), some (AV.ptr 1 0), none, none, some (AV.agg [AV.int .i64 am, AV.int .i64 ae]), some (AV.bool true), some (AV.agg [AV.int .i64 am, AV.int .i64 ae]), none, none, none, none, none, none, none, none, none, none, none, none, none, none, none, none, none, none, none, none, none, none, none, none, none, none, none, none], [some (AObj.cells [AV.int .i64 am, AV.int .i64 ae] 23), some (AObj.cells [AV.int .i64 am, AV.int .i64 ae] 23)]⟩, []⟩)
      (ob := [0 ≤ 0,
          0 - 0 + 2 ≤ List.length [AV.int .i64 am, AV.int .i64 ae],
          List.take 2 (List.drop (0 - 0) [AV.int .i64 am, AV.int .i64 ae]) = [AV.int .i64 am, AV.int .i64 ae],
          AV.agg [AV.int .i64 am, AV.int .i64 ae] = AV.agg [AV.int .i64 ((decOfR am ae).1), AV.int .i64 ((decOfR am ae).2)],
          Avoid (fun n => decide (0 ≤ n)) (AV.agg [AV.int .i64 ((decOfR am ae).1), AV.int .i64 ((decOfR am ae).2)])])
      Try.func18 (by kernel_rfl) Try.call18 (by kernel_rfl)
      ⟨Nat.zero_le _, Nat.le_of_ble_eq_true rfl, rfl, rfl, reright_meets am ae, boolT c1, Nat.zero_le _, Nat.le_of_ble_eq_true rfl, rfl, rfl, Nat.le_of_ble_eq_true rfl, rfl, trivial⟩
      (.inl rfl) (by kernel_rfl) ⟨Nat.zero_le _, Nat.le_of_ble_eq_true rfl, rfl, by simp [decOfR, *], Avoid.agg (AvoidL.cons (Avoid.int _ _ _) (AvoidL.cons (Avoid.int _ _ _) (AvoidL.nil _))), trivial⟩
  · by_cases c2 : (trimL (rawM am) (rawE ae)).1 = 0
    · exact meets_of_exec (fn := Try.f18) 2 [.reg [(0, {nm := [0]}), (1, {nm := [1]})], .reg [(0, {val := some (AV.agg [AV.int .i64 am, AV.int .i64 ae])}), (1, {call := some ⟨[], [AV.agg [AV.int .i64 am, AV.int .i64 ae]], [], AV.bool (rightB am ae), []⟩, val := some (AV.bool false)})], .reg [(1, {val := some (AV.int .i64 am)}), (2, {call := some ⟨[], [AV.int .i64 am, AV.int .i64 1999999999999999], [], AV.int .i64 (pickR am 1999999999999999), []⟩}), (3, {val := some (AV.int .i64 ((pickR am 1999999999999999) - 999999999999999))})], .reg [(1, {val := some (AV.int .i64 ae)}), (2, {call := some ⟨[], [AV.int .i64 ae, AV.int .i64 19], [], AV.int .i64 (pickR ae 19), []⟩}), (3, {val := some (AV.int .i64 ((pickR ae 19) - 9))})], .loop (⟨[none, some (AV.ptr 0 0), some (AV.ptr 1 0), some (AV.int .i64 (rawM am)), some (AV.int .i64 (rawE ae)), none, none, none, none, none, none, none, none, none, none, none, none, none, none, none, none, none, none, none, none, none, none, none, none, none, none, none, none, none, none, none], [some (AObj.cells [AV.int .i64 am, AV.int .i64 ae] 23), some (AObj.cells [AV.int .i64 0, AV.int .i64 0] 23)]⟩) (.exit 0) (⟨[none, some (AV.ptr 0 0), some (AV.ptr 1 0), some (AV.int .i64 ((trimL (rawM am) (rawE ae)).1)), some (AV.int .i64 ((trimL (rawM am) (rawE ae)).2)), none, none, none, none, none, none, none, none, none, none, none, none, none, none, none, none, none, none, none, none, none, none, none, none, none, none, none, none, none, none, none], [some (AObj.cells [AV.int .i64 am, AV.int .i64 ae] 23), some (AObj.cells [AV.int .i64 0, AV.int .i64 0] 23)]⟩), .reg [(1, {val := some (AV.bool true)})], .reg [], .reg [(2, {val := some (AV.agg [AV.int .i64 ((trimL (rawM am) (rawE ae)).1), AV.int .i64 0])}), (3, {obj := some [AObj.cells [AV.int .i64 ((trimL (rawM am) (rawE ae)).1), AV.int .i64 0] 23]})]] [{val := some (AV.agg [AV.int .i64 ((trimL (rawM am) (rawE ae)).1), AV.int .i64 0])}]
        (r := ⟨[0 ≤ 0,
            0 - 0 + 2 ≤ List.length [AV.int .i64 am, AV.int .i64 ae],
            List.take 2 (List.drop (0 - 0) [AV.int .i64 am, AV.int .i64 ae]) = [AV.int .i64 am, AV.int .i64 ae],
            [AV.agg [AV.int .i64 am, AV.int .i64 ae]] = renL [] [AV.agg [AV.int .i64 am, AV.int .i64 ae]],
            Meets Try.prog 50 [AV.agg [AV.int .i64 am, AV.int .i64 ae]] [] (AV.bool (rightB am ae)) [],
            AV.ren [] (AV.bool (rightB am ae)) = AV.bool false,
            0 ≤ 0,
            ([AV.int .i64 am, AV.int .i64 ae] : List AV)[0 - 0]? = some (AV.int .i64 am),
            [AV.int .i64 am, AV.int .i64 1999999999999999] = renL [] [AV.int .i64 am, AV.int .i64 1999999999999999],
            Meets Try.prog 19 [AV.int .i64 am, AV.int .i64 1999999999999999] [] (AV.int .i64 (pickR am 1999999999999999)) [],
            AV.int .i64 (IntKind.i64.wrap ((pickR am 1999999999999999) - 999999999999999)) = AV.int .i64 ((pickR am 1999999999999999) - 999999999999999),
            0 ≤ 1,
            ([AV.int .i64 am, AV.int .i64 ae] : List AV)[1 - 0]? = some (AV.int .i64 ae),
            [AV.int .i64 ae, AV.int .i64 19] = renL [] [AV.int .i64 ae, AV.int .i64 19],
            Meets Try.prog 19 [AV.int .i64 ae, AV.int .i64 19] [] (AV.int .i64 (pickR ae 19)) [],
            AV.int .i64 (IntKind.i64.wrap ((pickR ae 19) - 9)) = AV.int .i64 ((pickR ae 19) - 9),
            AV.ptr 0 0 = AV.ptr 0 0,
            AV.ptr 1 0 = AV.ptr 1 0,
            AV.int .i64 ((pickR am 1999999999999999) - 999999999999999) = AV.int .i64 (rawM am),
            AV.int .i64 ((pickR ae 19) - 9) = AV.int .i64 (rawE ae),
            AObj.cells [AV.int .i64 am, AV.int .i64 ae] 23 = AObj.cells [AV.int .i64 am, AV.int .i64 ae] 23,
            AObj.cells [AV.int .i64 0, AV.int .i64 0] 23 = AObj.cells [AV.int .i64 0, AV.int .i64 0] 23,
            Tri Try.prog (.loop (loopN (bodyOf Try.f18) 0)) (⟨[none, some (AV.ptr 0 0), some (AV.ptr 1 0), some (AV.int .i64 (rawM am)), some (AV.int .i64 (rawE ae)), none, none, none, none, none, none, none, none, none, none, none, none, none, none, none, none, none, none, none, none, none, none, none, none, none, none, none, none, none, none, none], [some (AObj.cells [AV.int .i64 am, AV.int .i64 ae] 23), some (AObj.cells [AV.int .i64 0, AV.int .i64 0] 23)]⟩) (.exit 0) (⟨[none, some (AV.ptr 0 0), some (AV.ptr 1 0), some (AV.int .i64 ((trimL (rawM am) (rawE ae)).1)), some (AV.int .i64 ((trimL (rawM am) (rawE ae)).2)), none, none, none, none, none, none, none, none, none, none, none, none, none, none, none, none, none, none, none, none, none, none, none, none, none, none, none, none, none, none, none], [some (AObj.cells [AV.int .i64 am, AV.int .i64 ae] 23), some (AObj.cells [AV.int .i64 0, AV.int .i64 0] 23)]⟩),
            AV.bool (((trimL (rawM am) (rawE ae)).1) == 0) = AV.bool true,
            ([AV.int .i64 ((trimL (rawM am) (rawE ae)).1)] : List AV).length = 1,
            0 + 1 ≤ ([AV.int .i64 0, AV.int .i64 0] : List AV).length,
            ([AV.int .i64 0] : List AV).length = 1,
            1 + 1 ≤ (List.take 0 [AV.int .i64 0, AV.int .i64 0] ++ [AV.int .i64 ((trimL (rawM am) (rawE ae)).1)] ++ List.drop 1 [AV.int .i64 0, AV.int .i64 0] : List AV).length,
            AV.agg (List.take 1 (List.take 0 [AV.int .i64 0, AV.int .i64 0] ++ [AV.int .i64 ((trimL (rawM am) (rawE ae)).1)] ++ List.drop 1 [AV.int .i64 0, AV.int .i64 0]) ++ [AV.int .i64 0] ++ List.drop 2 (List.take 0 [AV.int .i64 0, AV.int .i64 0] ++ [AV.int .i64 ((trimL (rawM am) (rawE ae)).1)] ++ List.drop 1 [AV.int .i64 0, AV.int .i64 0])) = AV.agg [AV.int .i64 ((trimL (rawM am) (rawE ae)).1), AV.int .i64 0],
            ([AV.int .i64 ((trimL (rawM am) (rawE ae)).1), AV.int .i64 0] : List AV).length = 2,
            0 + 2 ≤ List.length [AV.int .i64 0, AV.int .i64 0],
            AObj.cells (List.take 0 [AV.int .i64 0, AV.int .i64 0] ++ [AV.int .i64 ((trimL (rawM am) (rawE ae)).1), AV.int .i64 0] ++ List.drop (0 + 2) [AV.int .i64 0, AV.int .i64 0]) 23 = AObj.cells [AV.int .i64 ((trimL (rawM am) (rawE ae)).1), AV.int .i64 0] 23],
          .ret, ⟨[none, some (AV.ptr 0 0), some (AV.ptr 1 0), some (AV.int .i64 ((trimL (rawM am) (rawE ae)).1)), some (AV.int .i64 0), none, none, none, none, none, none, none, none, none, none, none, none, none, none, none, none, none, none, none, none, none, none, none, none, none, none, some (AV.int .i64 ((trimL (rawM am) (rawE ae)).1)), some (AV.bool true), some (AV.int .i64 ((trimL (rawM am) (rawE ae)).1)), some (AV.int .i64 0), some (AV.agg [AV.int .i64 ((trimL (rawM am) (rawE ae)).1), AV.int .i64 0])], [some (AObj.cells [AV.int .i64 am, AV.int .i64 ae] 23), some (AObj.cells [AV.int .i64 ((trimL (rawM am) (rawE ae)).1), AV.int .i64 0] 23)]⟩, []⟩)
        (ob := [0 ≤ 0,
            0 - 0 + 2 ≤ List.length [AV.int .i64 ((trimL (rawM am) (rawE ae)).1), AV.int .i64 0],
            List.take 2 (List.drop (0 - 0) [AV.int .i64 ((trimL (rawM am) (rawE ae)).1), AV.int .i64 0]) = [AV.int .i64 ((trimL (rawM am) (rawE ae)).1), AV.int .i64 0],
            AV.agg [AV.int .i64 ((trimL (rawM am) (rawE ae)).1), AV.int .i64 0] = AV.agg [AV.int .i64 ((decOfR am ae).1), AV.int .i64 ((decOfR am ae).2)],
            Avoid (fun n => decide (0 ≤ n)) (AV.agg [AV.int .i64 ((decOfR am ae).1), AV.int .i64 ((decOfR am ae).2)])])
        Try.func18 (by kernel_rfl) Try.call18 (by kernel_rfl)
        ⟨Nat.zero_le _, Nat.le_of_ble_eq_true rfl, rfl, rfl, reright_meets am ae, boolF c1, Nat.zero_le _, rfl, rfl, pick_meets am 1999999999999999 (by omega) (by omega), wI (by omega), Nat.zero_le _, rfl, rfl, pick_meets ae 19 (by omega) (by omega), wI (by omega), rfl, rfl, rfl, rfl, rfl, rfl, decOf_loop am ae (rawM am) (rawE ae) (rawM_range am) (rawE_range ae), eqT c2, rfl, Nat.le_of_ble_eq_true (by kernel_rfl), rfl, Nat.le_of_ble_eq_true (by kernel_rfl), by kernel_rfl, rfl, Nat.le_of_ble_eq_true rfl, rfl, trivial⟩
        (.inl rfl) (by kernel_rfl) ⟨Nat.zero_le _, Nat.le_of_ble_eq_true rfl, rfl, decOf_zero c1 c2, Avoid.agg (AvoidL.cons (Avoid.int _ _ _) (AvoidL.cons (Avoid.int _ _ _) (AvoidL.nil _))), trivial⟩
    · exact meets_of_exec (fn := Try.f18) 2 [.reg [(0, {nm := [0]}), (1, {nm := [1]})], .reg [(0, {val := some (AV.agg [AV.int .i64 am, AV.int .i64 ae])}), (1, {call := some ⟨[], [AV.agg [AV.int .i64 am, AV.int .i64 ae]], [], AV.bool (rightB am ae), []⟩, val := some (AV.bool false)})], .reg [(1, {val := some (AV.int .i64 am)}), (2, {call := some ⟨[], [AV.int .i64 am, AV.int .i64 1999999999999999], [], AV.int .i64 (pickR am 1999999999999999), []⟩}), (3, {val := some (AV.int .i64 ((pickR am 1999999999999999) - 999999999999999))})], .reg [(1, {val := some (AV.int .i64 ae)}), (2, {call := some ⟨[], [AV.int .i64 ae, AV.int .i64 19], [], AV.int .i64 (pickR ae 19), []⟩}), (3, {val := some (AV.int .i64 ((pickR ae 19) - 9))})], .loop (⟨[none, some (AV.ptr 0 0), some (AV.ptr 1 0), some (AV.int .i64 (rawM am)), some (AV.int .i64 (rawE ae)), none, none, none, none, none, none, none, none, none, none, none, none, none, none, none, none, none, none, none, none, none, none, none, none, none, none, none, none, none, none, none], [some (AObj.cells [AV.int .i64 am, AV.int .i64 ae] 23), some (AObj.cells [AV.int .i64 0, AV.int .i64 0] 23)]⟩) (.exit 0) (⟨[none, some (AV.ptr 0 0), some (AV.ptr 1 0), some (AV.int .i64 ((trimL (rawM am) (rawE ae)).1)), some (AV.int .i64 ((trimL (rawM am) (rawE ae)).2)), none, none, none, none, none, none, none, none, none, none, none, none, none, none, none, none, none, none, none, none, none, none, none, none, none, none, none, none, none, none, none], [some (AObj.cells [AV.int .i64 am, AV.int .i64 ae] 23), some (AObj.cells [AV.int .i64 0, AV.int .i64 0] 23)]⟩), .reg [(1, {val := some (AV.bool false)})], .reg [(2, {val := some (AV.agg [AV.int .i64 ((trimL (rawM am) (rawE ae)).1), AV.int .i64 ((trimL (rawM am) (rawE ae)).2)])}), (3, {obj := some [AObj.cells [AV.int .i64 ((trimL (rawM am) (rawE ae)).1), AV.int .i64 ((trimL (rawM am) (rawE ae)).2)] 23]})]] [{val := some (AV.agg [AV.int .i64 ((trimL (rawM am) (rawE ae)).1), AV.int .i64 ((trimL (rawM am) (rawE ae)).2)])}]
        (r := ⟨[0 ≤ 0,
            0 - 0 + 2 ≤ List.length [AV.int .i64 am, AV.int .i64 ae],
            List.take 2 (List.drop (0 - 0) [AV.int .i64 am, AV.int .i64 ae]) = [AV.int .i64 am, AV.int .i64 ae],
            [AV.agg [AV.int .i64 am, AV.int .i64 ae]] = renL [] [AV.agg [AV.int .i64 am, AV.int .i64 ae]],
            Meets Try.prog 50 [AV.agg [AV.int .i64 am, AV.int .i64 ae]] [] (AV.bool (rightB am ae)) [],
            AV.ren [] (AV.bool (rightB am ae)) = AV.bool false,
            0 ≤ 0,
            ([AV.int .i64 am, AV.int .i64 ae] : List AV)[0 - 0]? = some (AV.int .i64 am),
            [AV.int .i64 am, AV.int .i64 1999999999999999] = renL [] [AV.int .i64 am, AV.int .i64 1999999999999999],
            Meets Try.prog 19 [AV.int .i64 am, AV.int .i64 1999999999999999] [] (AV.int .i64 (pickR am 1999999999999999)) [],
            AV.int .i64 (IntKind.i64.wrap ((pickR am 1999999999999999) - 999999999999999)) = AV.int .i64 ((pickR am 1999999999999999) - 999999999999999),
            0 ≤ 1,
            ([AV.int .i64 am, AV.int .i64 ae] : List AV)[1 - 0]? = some (AV.int .i64 ae),
            [AV.int .i64 ae, AV.int .i64 19] = renL [] [AV.int .i64 ae, AV.int .i64 19],
            Meets Try.prog 19 [AV.int .i64 ae, AV.int .i64 19] [] (AV.int .i64 (pickR ae 19)) [],
            AV.int .i64 (IntKind.i64.wrap ((pickR ae 19) - 9)) = AV.int .i64 ((pickR ae 19) - 9),
            AV.ptr 0 0 = AV.ptr 0 0,
            AV.ptr 1 0 = AV.ptr 1 0,
            AV.int .i64 ((pickR am 1999999999999999) - 999999999999999) = AV.int .i64 (rawM am),
            AV.int .i64 ((pickR ae 19) - 9) = AV.int .i64 (rawE ae),
            AObj.cells [AV.int .i64 am, AV.int .i64 ae] 23 = AObj.cells [AV.int .i64 am, AV.int .i64 ae] 23,
            AObj.cells [AV.int .i64 0, AV.int .i64 0] 23 = AObj.cells [AV.int .i64 0, AV.int .i64 0] 23,
            Tri Try.prog (.loop (loopN (bodyOf Try.f18) 0)) (⟨[none, some (AV.ptr 0 0), some (AV.ptr 1 0), some (AV.int .i64 (rawM am)), some (AV.int .i64 (rawE ae)), none, none, none, none, none, none, none, none, none, none, none, none, none, none, none, none, none, none, none, none, none, none, none, none, none, none, none, none, none, none, none], [some (AObj.cells [AV.int .i64 am, AV.int .i64 ae] 23), some (AObj.cells [AV.int .i64 0, AV.int .i64 0] 23)]⟩) (.exit 0) (⟨[none, some (AV.ptr 0 0), some (AV.ptr 1 0), some (AV.int .i64 ((trimL (rawM am) (rawE ae)).1)), some (AV.int .i64 ((trimL (rawM am) (rawE ae)).2)), none, none, none, none, none, none, none, none, none, none, none, none, none, none, none, none, none, none, none, none, none, none, none, none, none, none, none, none, none, none, none], [some (AObj.cells [AV.int .i64 am, AV.int .i64 ae] 23), some (AObj.cells [AV.int .i64 0, AV.int .i64 0] 23)]⟩),
            AV.bool (((trimL (rawM am) (rawE ae)).1) == 0) = AV.bool false,
            ([AV.int .i64 ((trimL (rawM am) (rawE ae)).1)] : List AV).length = 1,
            0 + 1 ≤ ([AV.int .i64 0, AV.int .i64 0] : List AV).length,
            ([AV.int .i64 ((trimL (rawM am) (rawE ae)).2)] : List AV).length = 1,
            1 + 1 ≤ (List.take 0 [AV.int .i64 0, AV.int .i64 0] ++ [AV.int .i64 ((trimL (rawM am) (rawE ae)).1)] ++ List.drop 1 [AV.int .i64 0, AV.int .i64 0] : List AV).length,
            AV.agg (List.take 1 (List.take 0 [AV.int .i64 0, AV.int .i64 0] ++ [AV.int .i64 ((trimL (rawM am) (rawE ae)).1)] ++ List.drop 1 [AV.int .i64 0, AV.int .i64 0]) ++ [AV.int .i64 ((trimL (rawM am) (rawE ae)).2)] ++ List.drop 2 (List.take 0 [AV.int .i64 0, AV.int .i64 0] ++ [AV.int .i64 ((trimL (rawM am) (rawE ae)).1)] ++ List.drop 1 [AV.int .i64 0, AV.int .i64 0])) = AV.agg [AV.int .i64 ((trimL (rawM am) (rawE ae)).1), AV.int .i64 ((trimL (rawM am) (rawE ae)).2)],
            ([AV.int .i64 ((trimL (rawM am) (rawE ae)).1), AV.int .i64 ((trimL (rawM am) (rawE ae)).2)] : List AV).length = 2,
            0 + 2 ≤ List.length [AV.int .i64 0, AV.int .i64 0],
            AObj.cells (List.take 0 [AV.int .i64 0, AV.int .i64 0] ++ [AV.int .i64 ((trimL (rawM am) (rawE ae)).1), AV.int .i64 ((trimL (rawM am) (rawE ae)).2)] ++ List.drop (0 + 2) [AV.int .i64 0, AV.int .i64 0]) 23 = AObj.cells [AV.int .i64 ((trimL (rawM am) (rawE ae)).1), AV.int .i64 ((trimL (rawM am) (rawE ae)).2)] 23],
          .ret, ⟨[none, some (AV.ptr 0 0), some (AV.ptr 1 0), some (AV.int .i64 ((trimL (rawM am) (rawE ae)).1)), some (AV.int .i64 ((trimL (rawM am) (rawE ae)).2)), none, none, none, none, none, none, none, none, none, none, none, none, none, none, none, none, none, none, none, none, none, none, none, none, none, none, some (AV.int .i64 ((trimL (rawM am) (rawE ae)).1)), some (AV.bool false), some (AV.int .i64 ((trimL (rawM am) (rawE ae)).1)), some (AV.int .i64 ((trimL (rawM am) (rawE ae)).2)), some (AV.agg [AV.int .i64 ((trimL (rawM am) (rawE ae)).1), AV.int .i64 ((trimL (rawM am) (rawE ae)).2)])], [some (AObj.cells [AV.int .i64 am, AV.int .i64 ae] 23), some (AObj.cells [AV.int .i64 ((trimL (rawM am) (rawE ae)).1), AV.int .i64 ((trimL (rawM am) (rawE ae)).2)] 23)]⟩, []⟩)
        (ob := [0 ≤ 0,
            0 - 0 + 2 ≤ List.length [AV.int .i64 ((trimL (rawM am) (rawE ae)).1), AV.int .i64 ((trimL (rawM am) (rawE ae)).2)],
            List.take 2 (List.drop (0 - 0) [AV.int .i64 ((trimL (rawM am) (rawE ae)).1), AV.int .i64 ((trimL (rawM am) (rawE ae)).2)]) = [AV.int .i64 ((trimL (rawM am) (rawE ae)).1), AV.int .i64 ((trimL (rawM am) (rawE ae)).2)],
            AV.agg [AV.int .i64 ((trimL (rawM am) (rawE ae)).1), AV.int .i64 ((trimL (rawM am) (rawE ae)).2)] = AV.agg [AV.int .i64 ((decOfR am ae).1), AV.int .i64 ((decOfR am ae).2)],
            Avoid (fun n => decide (0 ≤ n)) (AV.agg [AV.int .i64 ((decOfR am ae).1), AV.int .i64 ((decOfR am ae).2)])])
        Try.func18 (by kernel_rfl) Try.call18 (by kernel_rfl)
        ⟨Nat.zero_le _, Nat.le_of_ble_eq_true rfl, rfl, rfl, reright_meets am ae, boolF c1, Nat.zero_le _, rfl, rfl, pick_meets am 1999999999999999 (by omega) (by omega), wI (by omega), Nat.zero_le _, rfl, rfl, pick_meets ae 19 (by omega) (by omega), wI (by omega), rfl, rfl, rfl, rfl, rfl, rfl, decOf_loop am ae (rawM am) (rawE ae) (rawM_range am) (rawE_range ae), eqF c2, rfl, Nat.le_of_ble_eq_true (by kernel_rfl), rfl, Nat.le_of_ble_eq_true (by kernel_rfl), by kernel_rfl, rfl, Nat.le_of_ble_eq_true rfl, rfl, trivial⟩
        (.inl rfl) (by kernel_rfl) ⟨Nat.zero_le _, Nat.le_of_ble_eq_true rfl, rfl, decOf_more c1 c2, Avoid.agg (AvoidL.cons (Avoid.int _ _ _) (AvoidL.cons (Avoid.int _ _ _) (AvoidL.nil _))), trivial⟩

end Go.Proofs.Ytabgphldbgdbpaa
