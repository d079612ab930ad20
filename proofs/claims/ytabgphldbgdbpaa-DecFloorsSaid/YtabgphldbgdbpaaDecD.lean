import Derived.Test.YtabgphldbgdbpaaDecC
set_option linter.unusedVariables false
set_option linter.unusedSimpArgs false
set_option maxRecDepth 20000
namespace Go.Proofs.Ytabgphldbgdbpaa
open Go Sx Dc

/-- The greatest of the first n numbers (of the first one, if n is 0). -/
def maxU (l : List Int) : Nat → Int
  | 0 => l.getD 0 0
  | n + 1 => max (maxU l n) (l.getD n 0)
theorem maxU_zero {l : List Int} (h : ∀ x ∈ l, 0 ≤ x) : ∀ n, n ≤ l.length → 0 < l.length → 0 ≤ maxU l n ∧ (maxU l n = 0 → ∀ i, i < n → l.getD i 0 = 0) ∧ ((∀ i, i < l.length → l.getD i 0 = 0) → maxU l n = 0)
  | 0, _, h0 => by
    have e : l.getD 0 0 = l[0] := by simp [List.getD, h0]
    exact ⟨by rw [maxU, e]; exact h _ (List.getElem_mem h0), fun _ i hi => by omega, fun a => a 0 h0⟩
  | n + 1, hn, h0 => by
    obtain ⟨h1, h2, h3⟩ := maxU_zero h n (by omega) h0
    have e : l.getD n 0 = l[n] := by simp [List.getD, (by omega : n < l.length)]
    have hp : 0 ≤ l.getD n 0 := by rw [e]; exact h _ (List.getElem_mem (by omega))
    refine ⟨by rw [maxU]; omega, fun g i hi => ?_, fun a => ?_⟩
    · rw [maxU] at g
      by_cases hi' : i = n
      · subst hi'; omega
      · exact h2 (by omega) i (by omega)
    · rw [maxU, h3 a, a n (by omega)]; rfl
theorem maxU_val {l : List Int} (h : Dig l) (h0 : 0 < l.length) : maxU l l.length = 0 ↔ val l = 0 := by
  obtain ⟨_, h2, h3⟩ := maxU_zero (fun x hx => (h x hx).1) l.length (Nat.le_refl _) h0
  rw [val_zero_iff h]
  constructor
  · intro g d hd
    obtain ⟨i, hi, rfl⟩ := List.getElem_of_mem hd
    have := h2 g i hi
    simpa [List.getD, hi] using this
  · intro g
    refine h3 fun i hi => ?_
    have := g l[i] (List.getElem_mem hi)
    simpa [List.getD, hi] using this

theorem max_round (l : List Int) (o c n : Nat) (h : n < l.length) (hl : l.length < 9223372036854775808) : Tri Try.prog (loopN (bodyOf Try.f77) 0) (⟨[some (AV.slice 0 o l.length c), none, none, some (AV.int .u8 (maxU l n)), some (AV.int .i64 ((n : Nat) : Int)), none, none, none, none, none, none, none, none, none, none, none, none, none, none, none, none, none, none, none, none], [some (AObj.ro o (ints .u8 l))]⟩) .normal (⟨[some (AV.slice 0 o l.length c), none, none, some (AV.int .u8 (maxU l (n + 1))), some (AV.int .i64 ((n + 1 : Nat) : Int)), none, none, none, none, none, none, none, none, none, none, none, none, none, none, none, none, none, none, none, none], [some (AObj.ro o (ints .u8 l))]⟩) 1 := by
  exact Tri.weak (ob := [AV.slice 0 o l.length c = AV.slice 0 o l.length c,
        AV.int .u8 (max (maxU l n) (l.getD n 0)) = AV.int .u8 (maxU l (n + 1)),
        AV.int .i64 ((n + 1 : Nat) : Int) = AV.int .i64 ((n + 1 : Nat) : Int),
        AObj.ro o (ints .u8 l) = AObj.ro o (ints .u8 l)]) (exec_sound _ [.reg [(3, {val := some (AV.bool true)})], .reg [(3, {val := some (AV.ptr 0 (o + n))}), (4, {val := some (AV.int .u8 (l.getD n 0))}), (5, {val := some (AV.int .u8 (max (maxU l n) (l.getD n 0)))})], .reg [(1, {val := some (AV.int .i64 ((n + 1 : Nat) : Int))})]] _
    ⟨[AV.bool (decide (((n : Nat) : Int) < ((l.length : Nat) : Int))) = AV.bool true,
        0 ≤ ((n : Nat) : Int),
        ((n : Nat) : Int) < ((l.length : Nat) : Int),
        AV.ptr 0 (o + Int.toNat ((n : Nat) : Int) * 1) = AV.ptr 0 (o + n),
        o ≤ (o + n),
        (ints .u8 l : List AV)[(o + n) - o]? = some (AV.int .u8 (l.getD n 0)),
        AV.int .u8 (if (l.getD n 0) > maxU l n then (l.getD n 0) else maxU l n) = AV.int .u8 (max (maxU l n) (l.getD n 0)),
        AV.int .i64 (IntKind.i64.wrap (((n : Nat) : Int) + 1)) = AV.int .i64 ((n + 1 : Nat) : Int)],
      .normal, ⟨[some (AV.slice 0 o l.length c), none, none, some (AV.int .u8 (max (maxU l n) (l.getD n 0))), some (AV.int .i64 ((n + 1 : Nat) : Int)), none, none, none, none, none, none, none, some (AV.int .i64 ((n : Nat) : Int)), some (AV.slice 0 o l.length c), some (AV.int .i64 ((l.length : Nat) : Int)), some (AV.bool true), some (AV.int .i64 ((n : Nat) : Int)), some (AV.int .i64 ((n + 1 : Nat) : Int)), some (AV.int .u8 (maxU l n)), some (AV.slice 0 o l.length c), some (AV.int .i64 ((n : Nat) : Int)), some (AV.ptr 0 (o + n)), some (AV.int .u8 (l.getD n 0)), some (AV.int .u8 (max (maxU l n) (l.getD n 0))), none], [some (AObj.ro o (ints .u8 l))]⟩, []⟩ (by kernel_rfl)
    ⟨bT (by omega), by omega, by omega, ptrE (by omega), by omega, ints_at [] (by simp only [List.length_nil, List.length_cons] <;> omega) (by omega), maxI, wI (by omega), trivial⟩) (by kernel_rfl)
    ⟨rfl, by rw [maxU], rfl, rfl, trivial⟩

def max_inv (l : List Int) (o c n : Nat) : AState :=
  ⟨[some (AV.slice 0 o l.length c), none, none, some (AV.int .u8 (maxU l n)), some (AV.int .i64 ((n : Nat) : Int)), none, none, none, none, none, none, none, none, none, none, none, none, none, none, none, none, none, none, none, none], [some (AObj.ro o (ints .u8 l))]⟩

def max_out (l : List Int) (o c : Nat) : AState :=
  ⟨[none, none, none, some (AV.int .u8 (maxU l l.length)), none, none, none, none, none, none, none, none, none, none, none, none, none, none, none, none, none, none, none, none, none], [some (AObj.ro o (ints .u8 l))]⟩

theorem max_last (l : List Int) (o c : Nat) (hl : l.length < 9223372036854775808) : Tri Try.prog (loopN (bodyOf Try.f77) 0) (⟨[some (AV.slice 0 o l.length c), none, none, some (AV.int .u8 (maxU l l.length)), some (AV.int .i64 ((l.length : Nat) : Int)), none, none, none, none, none, none, none, none, none, none, none, none, none, none, none, none, none, none, none, none], [some (AObj.ro o (ints .u8 l))]⟩) (.exit 0) (⟨[none, none, none, some (AV.int .u8 (maxU l l.length)), none, none, none, none, none, none, none, none, none, none, none, none, none, none, none, none, none, none, none, none, none], [some (AObj.ro o (ints .u8 l))]⟩) 1 := by
  exact Tri.weak (ob := [AV.int .u8 (maxU l l.length) = AV.int .u8 (maxU l l.length),
        AObj.ro o (ints .u8 l) = AObj.ro o (ints .u8 l)]) (exec_sound _ [.reg [(3, {val := some (AV.bool false)})]] _
    ⟨[AV.bool (decide (((l.length : Nat) : Int) < ((l.length : Nat) : Int))) = AV.bool false],
      .exit 0, ⟨[some (AV.slice 0 o l.length c), none, none, some (AV.int .u8 (maxU l l.length)), some (AV.int .i64 ((l.length : Nat) : Int)), none, none, none, none, none, none, none, some (AV.int .i64 ((l.length : Nat) : Int)), some (AV.slice 0 o l.length c), some (AV.int .i64 ((l.length : Nat) : Int)), some (AV.bool false), none, none, none, none, none, none, none, none, none], [some (AObj.ro o (ints .u8 l))]⟩, []⟩ (by kernel_rfl)
    ⟨bF (by omega), trivial⟩) (by kernel_rfl)
    ⟨rfl, rfl, trivial⟩

theorem max_loop (l : List Int) (o c : Nat) (h0 : 1 ≤ l.length) (hl : l.length < 9223372036854775808) : Tri Try.prog (.loop (loopN (bodyOf Try.f77) 0)) (max_inv l o c 1) (.exit 0) (max_out l o c) 1 :=
  tri_up (max_inv l o c) (ne_normal_exit 0) l.length (fun k hk => max_round l o c k hk hl) (max_last l o c hl) 1 h0

theorem max_meets (l : List Int) (o c : Nat) (h0 : 1 ≤ l.length) (hl : l.length < 9223372036854775808) : Meets Try.prog 77 [AV.slice 0 o l.length c] [AObj.ro o (ints .u8 l)] (AV.int .u8 (maxU l l.length)) [AObj.ro o (ints .u8 l)] := by
  exact meets_of_exec (fn := Try.f77) 0 [.reg [], .reg [(2, {val := some (AV.bool false)})], .reg [(1, {val := some (AV.ptr 0 o)}), (2, {val := some (AV.int .u8 (l.getD 0 0))})], .reg [], .loop (⟨[some (AV.slice 0 o l.length c), none, none, some (AV.int .u8 (maxU l 1)), some (AV.int .i64 ((1 : Nat) : Int)), none, none, none, none, none, none, none, none, none, none, none, none, none, none, none, none, none, none, none, none], [some (AObj.ro o (ints .u8 l))]⟩) (.exit 0) (⟨[none, none, none, some (AV.int .u8 (maxU l l.length)), none, none, none, none, none, none, none, none, none, none, none, none, none, none, none, none, none, none, none, none, none], [some (AObj.ro o (ints .u8 l))]⟩), .reg []] [{}]
    (r := ⟨[AV.bool (decide (((l.length : Nat) : Int) < 1)) = AV.bool false,
        0 ≤ (0 : Int),
        (0 : Int) < ((l.length : Nat) : Int),
        AV.ptr 0 (o + Int.toNat (0 : Int) * 1) = AV.ptr 0 o,
        o ≤ o,
        (ints .u8 l : List AV)[o - o]? = some (AV.int .u8 (l.getD 0 0)),
        AV.slice 0 o l.length c = AV.slice 0 o l.length c,
        AV.int .u8 (l.getD 0 0) = AV.int .u8 (maxU l 1),
        AV.int .i64 1 = AV.int .i64 ((1 : Nat) : Int),
        AObj.ro o (ints .u8 l) = AObj.ro o (ints .u8 l),
        Tri Try.prog (.loop (loopN (bodyOf Try.f77) 0)) (⟨[some (AV.slice 0 o l.length c), none, none, some (AV.int .u8 (maxU l 1)), some (AV.int .i64 ((1 : Nat) : Int)), none, none, none, none, none, none, none, none, none, none, none, none, none, none, none, none, none, none, none, none], [some (AObj.ro o (ints .u8 l))]⟩) (.exit 0) (⟨[none, none, none, some (AV.int .u8 (maxU l l.length)), none, none, none, none, none, none, none, none, none, none, none, none, none, none, none, none, none, none, none, none, none], [some (AObj.ro o (ints .u8 l))]⟩) 1],
      .ret, ⟨[none, none, some (AV.int .u8 (maxU l l.length)), some (AV.int .u8 (maxU l l.length)), none, none, none, none, none, none, none, none, none, none, none, none, none, none, none, none, none, none, none, none, some (AV.int .u8 (maxU l l.length))], [some (AObj.ro o (ints .u8 l))]⟩, []⟩)
    (ob := [AV.int .u8 (maxU l l.length) = AV.int .u8 (maxU l l.length),
        AObj.ro o (ints .u8 l) = AObj.ro o (ints .u8 l),
        AvoidO (fun n => decide (1 ≤ n)) (AObj.ro o (ints .u8 l))])
    Try.func77 (by kernel_rfl) Try.call77 (by kernel_rfl)
    ⟨bF (by omega), by decide, by omega, ptrE (by omega), by omega, ints_at [] (by simp only [List.length_nil, List.length_cons] <;> omega) (by omega), rfl, intE (by simp only [maxU]; omega), rfl, rfl, max_loop l o c h0 hl, trivial⟩
    (.inl rfl) (by kernel_rfl) ⟨rfl, rfl, AvoidO.ro (AvoidL.ints _ _ _), trivial⟩

theorem none_meets (l : List Int) (o c : Nat) (h0 : 1 ≤ l.length) (hl : l.length < 9223372036854775808) (hd : Dig l) : Meets Try.prog 59 [AV.slice 0 o l.length c] [AObj.ro o (ints .u8 l)] (AV.bool (decide (val l = 0))) [AObj.ro o (ints .u8 l)] := by
  exact meets_of_exec (fn := Try.f59) 0 [.reg [], .reg [(1, {call := some ⟨[0], [AV.slice 0 o l.length c], [AObj.ro o (ints .u8 l)], AV.int .u8 (maxU l l.length), [AObj.ro o (ints .u8 l)]⟩, obj := some [AObj.ro o (ints .u8 l)]})]] [{}]
    (r := ⟨[[AV.slice 0 o l.length c] = renL [0] [AV.slice 0 o l.length c],
        Meets Try.prog 77 [AV.slice 0 o l.length c] [AObj.ro o (ints .u8 l)] (AV.int .u8 (maxU l l.length)) [AObj.ro o (ints .u8 l)],
        Fits (AObj.ro o (ints .u8 l)) (AObj.ren [0] (AObj.ro o (ints .u8 l))),
        updOf [0] [AObj.ro o (ints .u8 l)] [AObj.ro o (ints .u8 l)] [AObj.ro o (ints .u8 l)] ++ List.map (fun x => x.ren [0]) (List.drop 1 [AObj.ro o (ints .u8 l)]) = [AObj.ro o (ints .u8 l)]],
      .ret, ⟨[some (AV.slice 0 o l.length c), none, some (AV.bool ((maxU l l.length) == 0)), some (AV.slice 0 o l.length c), some (AV.int .u8 (maxU l l.length)), some (AV.bool ((maxU l l.length) == 0))], [some (AObj.ro o (ints .u8 l))]⟩, []⟩)
    (ob := [AV.bool ((maxU l l.length) == 0) = AV.bool (decide (val l = 0)),
        AObj.ro o (ints .u8 l) = AObj.ro o (ints .u8 l),
        AvoidO (fun n => decide (1 ≤ n)) (AObj.ro o (ints .u8 l))])
    Try.func59 (by kernel_rfl) Try.call59 (by kernel_rfl)
    ⟨rfl, max_meets l o c h0 hl, Fits.of_eq (by simp only [AObj.ren, renL, AV.ren, renL_ints, renL_u8s, renL_append]), rfl, trivial⟩
    (.inl rfl) (by kernel_rfl) ⟨boolE (by rw [Bool.eq_iff_iff]; simp [maxU_val hd h0]), rfl, AvoidO.ro (AvoidL.ints _ _ _), trivial⟩

end Go.Proofs.Ytabgphldbgdbpaa
