import Derived.Test.YtabgphldbgdbpaaDecF
set_option linter.unusedVariables false
set_option linter.unusedSimpArgs false
set_option maxRecDepth 20000
namespace Go.Proofs.Ytabgphldbgdbpaa
open Go Sx Dc

theorem val_split (l : List Int) (w : Nat) : val l = val (l.take w) * 10 ^ (l.length - w) + val (l.drop w) := by
  have := val_append (l.take w) (l.drop w)
  rwa [List.take_append_drop, List.length_drop] at this
theorem val_head {l : List Int} (h : 0 < l.length) : val l = l.getD 0 0 * 10 ^ (l.length - 1) + val (l.drop 1) := by
  cases l with
  | nil => simp at h
  | cons d l => rw [val_cons]; simp
/-- Does what is cut off make the number before it greater by one? -/
def upB (n : Int) (l : List Int) : Bool := decide (5 * 10 ^ (l.length - 1) < val l ∨ (val l = 5 * 10 ^ (l.length - 1) ∧ n % 2 = 1))
theorem up_ne {n : Int} {l : List Int} (hd : Dig l) (h0 : 2 ≤ l.length) (c : ¬ l.getD 0 0 = 5) : AV.bool (decide (l.getD 0 0 > 5)) = AV.bool (upB n l) := by
  refine boolE (decide_eq_decide.2 ?_)
  have h1 := val_head (l := l) (by omega)
  have h2 := val_bounds _ (hd.drop 1)
  rw [List.length_drop] at h2
  rw [h1]
  generalize l.getD 0 0 = d at *
  generalize val (l.drop 1) = v at *
  have hp := pow_pos' (l.length - 1)
  generalize (10 : Int) ^ (l.length - 1) = p at *
  constructor
  · intro g
    have : 6 * p ≤ d * p := Int.mul_le_mul_of_nonneg_right (by omega) (by omega)
    left; omega
  · intro g
    rcases Int.lt_or_le 5 d with k | k
    · exact k
    · have : d * p ≤ 4 * p := Int.mul_le_mul_of_nonneg_right (by omega) (by omega)
      omega
theorem up_odd {n : Int} {l : List Int} (hd : Dig l) (h0 : 2 ≤ l.length) (c : l.getD 0 0 = 5) (c2 : n % 2 = 1) : AV.bool true = AV.bool (upB n l) := by
  refine boolE (Eq.symm (decide_eq_true ?_))
  have h1 := val_head (l := l) (by omega)
  have h2 := val_bounds _ (hd.drop 1)
  rw [h1, c]
  omega
theorem up_even {n : Int} {l : List Int} (hd : Dig l) (h0 : 2 ≤ l.length) (c : l.getD 0 0 = 5) (c2 : ¬ n % 2 = 1) : AV.bool (!decide (val (l.drop 1) = 0)) = AV.bool (upB n l) := by
  refine boolE ?_
  have h1 := val_head (l := l) (by omega)
  have h2 := val_bounds _ (hd.drop 1)
  rw [Bool.eq_iff_iff]
  simp only [upB, Bool.not_eq_true', decide_eq_false_iff_not, decide_eq_true_eq]
  rw [h1, c]
  omega
/-- A window into figures. -/
theorem fits_fig {m : AV} {ds us : List Int} {t off i : Nat} (r : List Nat) (ho : off = i + 1) (hu : (ds.drop i).take us.length = us) : Fits (.cells (m :: ints .u8 ds) t) (AObj.ren r (.ro off (ints .u8 us))) := by
  rw [show AObj.ren r (.ro off (ints .u8 us)) = .ro off (ints .u8 us) by simp only [AObj.ren, renL_ints]]
  refine Fits.ro (o0 := 0) rfl rfl (Nat.zero_le _) ?_
  rw [ho, Nat.sub_zero, List.drop_succ_cons, ints_length]
  simp only [ints] at *
  rw [← List.map_drop, ← List.map_take, hu]
theorem fits_win {o o' i : Nat} {ds us : List Int} (r : List Nat) (ho : o' = o + i) (hu : (ds.drop i).take us.length = us) : Fits (.ro o (ints .u8 ds)) (AObj.ren r (.ro o' (ints .u8 us))) := by
  rw [show AObj.ren r (.ro o' (ints .u8 us)) = .ro o' (ints .u8 us) by simp only [AObj.ren, renL_ints]]
  refine Fits.ro (o0 := o) rfl rfl (by omega) ?_
  rw [show o' - o = i by omega, ints_length]
  simp only [ints] at *
  rw [← List.map_drop, ← List.map_take, hu]

theorem goesUp_meets (n : Int) (l : List Int) (o c : Nat) (hn : 0 ≤ n) (hd : Dig l) (h0 : 2 ≤ l.length) (hc : l.length ≤ c) (hc2 : c < 1000) : Meets Try.prog 81 [AV.int .i64 n, AV.slice 0 o l.length c] [AObj.ro o (ints .u8 l)] (AV.bool (upB n l)) [AObj.ro o (ints .u8 l)] := by
  by_cases c1 : (l.getD 0 0) = 5
  · by_cases c2 : (n % 2) = 1
    · exact meets_of_exec (fn := Try.f81) 0 [.reg [], .reg [(1, {val := some (AV.ptr 0 o)}), (2, {val := some (AV.int .u8 (l.getD 0 0))}), (3, {val := some (AV.bool false)})], .reg [(1, {val := some (AV.int .i64 (n % 2))}), (2, {val := some (AV.bool true)})]] [{}]
        (r := ⟨[0 ≤ (0 : Int),
            (0 : Int) < ((l.length : Nat) : Int),
            AV.ptr 0 (o + Int.toNat (0 : Int) * 1) = AV.ptr 0 o,
            o ≤ o,
            (ints .u8 l : List AV)[o - o]? = some (AV.int .u8 (l.getD 0 0)),
            AV.bool ((l.getD 0 0) != 5) = AV.bool false,
            (2 : Int) ≠ 0,
            AV.int .i64 (n.tmod 2) = AV.int .i64 (n % 2),
            AV.bool ((n % 2) == 1) = AV.bool true],
          .ret, ⟨[some (AV.int .i64 n), some (AV.slice 0 o l.length c), none, none, some (AV.bool true), some (AV.slice 0 o l.length c), some (AV.ptr 0 o), some (AV.int .u8 (l.getD 0 0)), some (AV.bool false), none, none, none, none, some (AV.int .i64 n), some (AV.int .i64 (n % 2)), some (AV.bool true), some (AV.bool true), some (AV.tuple []), some (AV.tuple []), some (AV.tuple []), some (AV.tuple []), some (AV.bool true)], [some (AObj.ro o (ints .u8 l))]⟩, []⟩)
        (ob := [AV.bool true = AV.bool (upB n l),
            AObj.ro o (ints .u8 l) = AObj.ro o (ints .u8 l),
            AvoidO (fun n => decide (1 ≤ n)) (AObj.ro o (ints .u8 l))])
        Try.func81 (by kernel_rfl) Try.call81 (by kernel_rfl)
        ⟨by decide, by omega, ptrE (by omega), by omega, ints_at [] (by simp only [List.length_nil, List.length_cons] <;> omega) (by omega), neF c1, by decide, remI (by omega), eqT c2, trivial⟩
        (.inl rfl) (by kernel_rfl) ⟨up_odd hd h0 c1 c2, rfl, AvoidO.ro (AvoidL.ints _ _ _), trivial⟩
    · exact meets_of_exec (fn := Try.f81) 0 [.reg [], .reg [(1, {val := some (AV.ptr 0 o)}), (2, {val := some (AV.int .u8 (l.getD 0 0))}), (3, {val := some (AV.bool false)})], .reg [(1, {val := some (AV.int .i64 (n % 2))}), (2, {val := some (AV.bool false)}), (5, {val := some (AV.slice 0 (o + 1) (l.length - 1) (c - 1))}), (6, {call := some ⟨[0], [AV.slice 0 (o + 1) ((l.drop 1).length) (c - 1)], [AObj.ro (o + 1) (ints .u8 (l.drop 1))], AV.bool (decide (val (l.drop 1) = 0)), [AObj.ro (o + 1) (ints .u8 (l.drop 1))]⟩, obj := some [AObj.ro o (ints .u8 l)]})]] [{}]
        (r := ⟨[0 ≤ (0 : Int),
            (0 : Int) < ((l.length : Nat) : Int),
            AV.ptr 0 (o + Int.toNat (0 : Int) * 1) = AV.ptr 0 o,
            o ≤ o,
            (ints .u8 l : List AV)[o - o]? = some (AV.int .u8 (l.getD 0 0)),
            AV.bool ((l.getD 0 0) != 5) = AV.bool false,
            (2 : Int) ≠ 0,
            AV.int .i64 (n.tmod 2) = AV.int .i64 (n % 2),
            AV.bool ((n % 2) == 1) = AV.bool false,
            0 ≤ (1 : Int),
            ((Int.toNat (1 : Int)) : Nat) ≤ l.length,
            (l.length : Nat) ≤ c,
            (c : Nat) ≤ c,
            AV.slice 0 (if c = (Int.toNat (1 : Int)) then o else o + (Int.toNat (1 : Int)) * 1) (l.length - (Int.toNat (1 : Int))) (c - (Int.toNat (1 : Int))) = AV.slice 0 (o + 1) (l.length - 1) (c - 1),
            [AV.slice 0 (o + 1) (l.length - 1) (c - 1)] = renL [0] [AV.slice 0 (o + 1) ((l.drop 1).length) (c - 1)],
            Meets Try.prog 59 [AV.slice 0 (o + 1) ((l.drop 1).length) (c - 1)] [AObj.ro (o + 1) (ints .u8 (l.drop 1))] (AV.bool (decide (val (l.drop 1) = 0))) [AObj.ro (o + 1) (ints .u8 (l.drop 1))],
            Fits (AObj.ro o (ints .u8 l)) (AObj.ren [0] (AObj.ro (o + 1) (ints .u8 (l.drop 1)))),
            updOf [0] [AObj.ro o (ints .u8 l)] [AObj.ro (o + 1) (ints .u8 (l.drop 1))] [AObj.ro (o + 1) (ints .u8 (l.drop 1))] ++ List.map (fun x => x.ren [0]) (List.drop 1 [AObj.ro (o + 1) (ints .u8 (l.drop 1))]) = [AObj.ro o (ints .u8 l)]],
          .ret, ⟨[some (AV.int .i64 n), some (AV.slice 0 o l.length c), none, none, some (AV.bool (!(decide (val (l.drop 1) = 0)))), some (AV.slice 0 o l.length c), some (AV.ptr 0 o), some (AV.int .u8 (l.getD 0 0)), some (AV.bool false), none, none, none, none, some (AV.int .i64 n), some (AV.int .i64 (n % 2)), some (AV.bool false), some (AV.bool false), some (AV.slice 0 o l.length c), some (AV.slice 0 (o + 1) (l.length - 1) (c - 1)), some (AV.bool (decide (val (l.drop 1) = 0))), some (AV.bool (!(decide (val (l.drop 1) = 0)))), some (AV.bool (!(decide (val (l.drop 1) = 0))))], [some (AObj.ro o (ints .u8 l))]⟩, []⟩)
        (ob := [AV.bool (!(decide (val (l.drop 1) = 0))) = AV.bool (upB n l),
            AObj.ro o (ints .u8 l) = AObj.ro o (ints .u8 l),
            AvoidO (fun n => decide (1 ≤ n)) (AObj.ro o (ints .u8 l))])
        Try.func81 (by kernel_rfl) Try.call81 (by kernel_rfl)
        ⟨by decide, by omega, ptrE (by omega), by omega, ints_at [] (by simp only [List.length_nil, List.length_cons] <;> omega) (by omega), neF c1, by decide, remI (by omega), eqF c2, by omega, by omega, by omega, by omega, sliceE (by first | (split <;> omega) | (simp; omega) | simp) (by omega) (by omega), by simp only [renL, AV.ren, List.length_drop]; rfl, none_meets (l.drop 1) (o + 1) (c - 1) (by rw [List.length_drop]; omega) (by rw [List.length_drop]; omega) (hd.drop 1), fits_win _ rfl List.take_length, rfl, trivial⟩
        (.inl rfl) (by kernel_rfl) ⟨up_even hd h0 c1 c2, rfl, AvoidO.ro (AvoidL.ints _ _ _), trivial⟩
  · exact meets_of_exec (fn := Try.f81) 0 [.reg [], .reg [(1, {val := some (AV.ptr 0 o)}), (2, {val := some (AV.int .u8 (l.getD 0 0))}), (3, {val := some (AV.bool true)})], .reg [(1, {val := some (AV.ptr 0 o)}), (2, {val := some (AV.int .u8 (l.getD 0 0))})]] [{}]
      (r := ⟨[0 ≤ (0 : Int),
          (0 : Int) < ((l.length : Nat) : Int),
          AV.ptr 0 (o + Int.toNat (0 : Int) * 1) = AV.ptr 0 o,
          o ≤ o,
          (ints .u8 l : List AV)[o - o]? = some (AV.int .u8 (l.getD 0 0)),
          AV.bool ((l.getD 0 0) != 5) = AV.bool true,
          0 ≤ (0 : Int),
          (0 : Int) < ((l.length : Nat) : Int),
          AV.ptr 0 (o + Int.toNat (0 : Int) * 1) = AV.ptr 0 o,
          o ≤ o,
          (ints .u8 l : List AV)[o - o]? = some (AV.int .u8 (l.getD 0 0))],
        .ret, ⟨[some (AV.int .i64 n), some (AV.slice 0 o l.length c), none, none, some (AV.bool (decide ((l.getD 0 0) > 5))), some (AV.slice 0 o l.length c), some (AV.ptr 0 o), some (AV.int .u8 (l.getD 0 0)), some (AV.bool true), some (AV.slice 0 o l.length c), some (AV.ptr 0 o), some (AV.int .u8 (l.getD 0 0)), some (AV.bool (decide ((l.getD 0 0) > 5))), none, none, none, none, none, none, none, none, none], [some (AObj.ro o (ints .u8 l))]⟩, []⟩)
      (ob := [AV.bool (decide ((l.getD 0 0) > 5)) = AV.bool (upB n l),
          AObj.ro o (ints .u8 l) = AObj.ro o (ints .u8 l),
          AvoidO (fun n => decide (1 ≤ n)) (AObj.ro o (ints .u8 l))])
      Try.func81 (by kernel_rfl) Try.call81 (by kernel_rfl)
      ⟨by decide, by omega, ptrE (by omega), by omega, ints_at [] (by simp only [List.length_nil, List.length_cons] <;> omega) (by omega), neT c1, by decide, by omega, ptrE (by omega), by omega, ints_at [] (by simp only [List.length_nil, List.length_cons] <;> omega) (by omega), trivial⟩
      (.inl rfl) (by kernel_rfl) ⟨up_ne hd h0 c1, rfl, AvoidO.ro (AvoidL.ints _ _ _), trivial⟩

theorem capE_pos' {n k : Int} (e : k = n) (h : n ≤ 999999999999999) : AV.tuple [.int .i64 n, .bool true] = AV.tuple [.int .i64 (capN k), .bool (capB k)] := by subst e; exact capE_pos h
def evenN (ds : List Int) (w : Nat) : Int := if upB (val (ds.take w)) (ds.drop w) = true then val (ds.take w) + 1 else val (ds.take w)
theorem evenN_ge (ds : List Int) (w : Nat) : val (ds.take w) ≤ evenN ds w ∧ evenN ds w ≤ val (ds.take w) + 1 := by unfold evenN; split <;> omega
theorem even_up {ds : List Int} {w : Nat} (h : upB (val (ds.take w)) (ds.drop w) = true) : evenN ds w = val (ds.take w) + 1 := by simp [evenN, h]
theorem even_dn {ds : List Int} {w : Nat} (h : ¬ upB (val (ds.take w)) (ds.drop w) = true) : evenN ds w = val (ds.take w) := by simp [evenN, h]

theorem even_meets (mx : Bool) (ds : List Int) (e : Int) (w : Nat) (hl : ds.length = 88) (hd : Dig ds) (he : -10 ≤ e ∧ e ≤ 10) (hw : 48 - e = w) : Meets Try.prog 66 [AV.ptr 0 0, AV.int .i64 e] [AObj.cells ((AV.bool mx) :: (ints .u8 ds)) 50] (AV.tuple [AV.int .i64 (capN (evenN ds w)), AV.bool (capB (evenN ds w))]) [AObj.cells ((AV.bool mx) :: (ints .u8 ds)) 50] := by
  have hge := evenN_ge ds w
  have hb := (val_bounds _ (hd.take w)).1
  by_cases c1 : val (ds.take w) ≤ 999999999999999
  · by_cases c2 : upB (val (ds.take w)) (ds.drop w) = true
    · by_cases c3 : ((val (ds.take w)) + 1) > 999999999999999
      · exact meets_of_exec (fn := Try.f66) 0 [.reg [], .reg [(2, {call := some ⟨[0], [AV.ptr 0 0, AV.int .i64 e], [AObj.cells ((AV.bool mx) :: (ints .u8 ds)) 50], AV.tuple [AV.int .i64 (capN (val (ds.take w))), AV.bool (capB (val (ds.take w)))], [AObj.cells ((AV.bool mx) :: (ints .u8 ds)) 50]⟩, val := some (AV.tuple [AV.int .i64 (val (ds.take w)), AV.bool true]), obj := some [AObj.cells ((AV.bool mx) :: (ints .u8 ds)) 50]})], .reg [(1, {val := some (AV.bool false)})], .reg [(5, {val := some (AV.int .i64 ((w : Nat) : Int))}), (6, {val := some (AV.slice 0 (w + 1) (88 - w) (88 - w))}), (7, {call := some ⟨[0], [AV.int .i64 (val (ds.take w)), AV.slice 0 (w + 1) ((ds.drop w).length) (88 - w)], [AObj.ro (w + 1) (ints .u8 (ds.drop w))], AV.bool (upB (val (ds.take w)) (ds.drop w)), [AObj.ro (w + 1) (ints .u8 (ds.drop w))]⟩, val := some (AV.bool true), obj := some [AObj.cells ((AV.bool mx) :: (ints .u8 ds)) 50]})], .reg [(1, {val := some (AV.int .i64 ((val (ds.take w)) + 1))})], .reg [(1, {val := some (AV.bool true)})], .reg []] [{}, {}]
          (r := ⟨[[AV.ptr 0 0, AV.int .i64 e] = renL [0] [AV.ptr 0 0, AV.int .i64 e],
              Meets Try.prog 58 [AV.ptr 0 0, AV.int .i64 e] [AObj.cells ((AV.bool mx) :: (ints .u8 ds)) 50] (AV.tuple [AV.int .i64 (capN (val (ds.take w))), AV.bool (capB (val (ds.take w)))]) [AObj.cells ((AV.bool mx) :: (ints .u8 ds)) 50],
              Fits (AObj.cells ((AV.bool mx) :: (ints .u8 ds)) 50) (AObj.ren [0] (AObj.cells ((AV.bool mx) :: (ints .u8 ds)) 50)),
              AV.ren [0] (AV.tuple [AV.int .i64 (capN (val (ds.take w))), AV.bool (capB (val (ds.take w)))]) = AV.tuple [AV.int .i64 (val (ds.take w)), AV.bool true],
              updOf [0] [AObj.cells ((AV.bool mx) :: (ints .u8 ds)) 50] [AObj.cells ((AV.bool mx) :: (ints .u8 ds)) 50] [AObj.cells ((AV.bool mx) :: (ints .u8 ds)) 50] ++ List.map (fun x => x.ren [0]) (List.drop 1 [AObj.cells ((AV.bool mx) :: (ints .u8 ds)) 50]) = [AObj.cells ((AV.bool mx) :: (ints .u8 ds)) 50],
              AV.bool (!true) = AV.bool false,
              AV.int .i64 (IntKind.i64.wrap (48 - e)) = AV.int .i64 ((w : Nat) : Int),
              0 ≤ (((w : Nat) : Int) : Int),
              ((Int.toNat (((w : Nat) : Int))) : Nat) ≤ 88,
              (88 : Nat) ≤ 88,
              (88 : Nat) ≤ 88,
              AV.slice 0 (if 88 = (Int.toNat (((w : Nat) : Int))) then 1 else 1 + (Int.toNat (((w : Nat) : Int))) * 1) (88 - (Int.toNat (((w : Nat) : Int)))) (88 - (Int.toNat (((w : Nat) : Int)))) = AV.slice 0 (w + 1) (88 - w) (88 - w),
              [AV.int .i64 (val (ds.take w)), AV.slice 0 (w + 1) (88 - w) (88 - w)] = renL [0] [AV.int .i64 (val (ds.take w)), AV.slice 0 (w + 1) ((ds.drop w).length) (88 - w)],
              Meets Try.prog 81 [AV.int .i64 (val (ds.take w)), AV.slice 0 (w + 1) ((ds.drop w).length) (88 - w)] [AObj.ro (w + 1) (ints .u8 (ds.drop w))] (AV.bool (upB (val (ds.take w)) (ds.drop w))) [AObj.ro (w + 1) (ints .u8 (ds.drop w))],
              Fits (AObj.cells ((AV.bool mx) :: (ints .u8 ds)) 50) (AObj.ren [0] (AObj.ro (w + 1) (ints .u8 (ds.drop w)))),
              AV.ren [0] (AV.bool (upB (val (ds.take w)) (ds.drop w))) = AV.bool true,
              updOf [0] [AObj.cells ((AV.bool mx) :: (ints .u8 ds)) 50] [AObj.ro (w + 1) (ints .u8 (ds.drop w))] [AObj.ro (w + 1) (ints .u8 (ds.drop w))] ++ List.map (fun x => x.ren [0]) (List.drop 1 [AObj.ro (w + 1) (ints .u8 (ds.drop w))]) = [AObj.cells ((AV.bool mx) :: (ints .u8 ds)) 50],
              AV.int .i64 (IntKind.i64.wrap ((val (ds.take w)) + 1)) = AV.int .i64 ((val (ds.take w)) + 1),
              AV.bool (decide (((val (ds.take w)) + 1) > 999999999999999)) = AV.bool true],
            .ret, ⟨[some (AV.ptr 0 0), some (AV.int .i64 e), none, none, some (AV.int .i64 0), some (AV.bool false), some (AV.int .i64 ((val (ds.take w)) + 1)), some (AV.bool true), some (AV.tuple [AV.int .i64 (val (ds.take w)), AV.bool true]), some (AV.ptr 0 0), some (AV.int .i64 e), some (AV.tuple [AV.int .i64 (val (ds.take w)), AV.bool true]), some (AV.int .i64 (val (ds.take w))), some (AV.bool true), some (AV.bool true), some (AV.bool false), some (AV.int .i64 (val (ds.take w))), some (AV.ptr 0 0), some (AV.ptr 0 0), some (AV.ptr 0 1), some (AV.int .i64 e), some (AV.int .i64 ((w : Nat) : Int)), some (AV.slice 0 (w + 1) (88 - w) (88 - w)), some (AV.bool true), some (AV.int .i64 (val (ds.take w))), some (AV.int .i64 ((val (ds.take w)) + 1)), some (AV.int .i64 ((val (ds.take w)) + 1)), some (AV.bool true), none], [some (AObj.cells ((AV.bool mx) :: (ints .u8 ds)) 50)]⟩, []⟩)
          (ob := [AV.tuple [AV.int .i64 0, AV.bool false] = AV.tuple [AV.int .i64 (capN (evenN ds w)), AV.bool (capB (evenN ds w))],
              Avoid (fun n => decide (1 ≤ n)) (AV.tuple [AV.int .i64 (capN (evenN ds w)), AV.bool (capB (evenN ds w))]),
              AObj.cells ((AV.bool mx) :: (ints .u8 ds)) 50 = AObj.cells ((AV.bool mx) :: (ints .u8 ds)) 50,
              AvoidO (fun n => decide (1 ≤ n)) (AObj.cells ((AV.bool mx) :: (ints .u8 ds)) 50)])
          Try.func66 (by kernel_rfl) Try.call66 (by kernel_rfl)
          ⟨rfl, whole_meets mx ds e w hl hd (by omega) hw, Fits.of_eq (by simp only [AObj.ren, renL, AV.ren, renL_ints, renL_u8s, renL_append]), cap_pos c1, by simp [updOf, AObj.owned, AObj.ren, renL, AV.ren, renL_ints, renL_u8s, renL_append], rfl, wI (by omega), by omega, by omega, by omega, by omega, sliceE (by first | (split <;> omega) | (simp; omega) | simp) (by omega) (by omega), by simp only [renL, AV.ren, List.length_drop, hl]; rfl, goesUp_meets _ (ds.drop w) (w + 1) (88 - w) (val_bounds _ (hd.take w)).1 (hd.drop w) (by rw [List.length_drop]; omega) (by rw [List.length_drop]; omega) (by omega), fits_fig _ rfl List.take_length, boolT c2, rfl, wI (by omega), bT c3, trivial⟩
          (.inl rfl) (by kernel_rfl) ⟨capE_neg (by first | omega | (have := even_up c2; omega)), Avoid.tuple (AvoidL.cons (Avoid.int _ _ _) (AvoidL.cons (Avoid.bool _ _) (AvoidL.nil _))), rfl, AvoidO.cells (AvoidL.cons (Avoid.bool _ _) (AvoidL.ints _ _ _)), trivial⟩
      · exact meets_of_exec (fn := Try.f66) 0 [.reg [], .reg [(2, {call := some ⟨[0], [AV.ptr 0 0, AV.int .i64 e], [AObj.cells ((AV.bool mx) :: (ints .u8 ds)) 50], AV.tuple [AV.int .i64 (capN (val (ds.take w))), AV.bool (capB (val (ds.take w)))], [AObj.cells ((AV.bool mx) :: (ints .u8 ds)) 50]⟩, val := some (AV.tuple [AV.int .i64 (val (ds.take w)), AV.bool true]), obj := some [AObj.cells ((AV.bool mx) :: (ints .u8 ds)) 50]})], .reg [(1, {val := some (AV.bool false)})], .reg [(5, {val := some (AV.int .i64 ((w : Nat) : Int))}), (6, {val := some (AV.slice 0 (w + 1) (88 - w) (88 - w))}), (7, {call := some ⟨[0], [AV.int .i64 (val (ds.take w)), AV.slice 0 (w + 1) ((ds.drop w).length) (88 - w)], [AObj.ro (w + 1) (ints .u8 (ds.drop w))], AV.bool (upB (val (ds.take w)) (ds.drop w)), [AObj.ro (w + 1) (ints .u8 (ds.drop w))]⟩, val := some (AV.bool true), obj := some [AObj.cells ((AV.bool mx) :: (ints .u8 ds)) 50]})], .reg [(1, {val := some (AV.int .i64 ((val (ds.take w)) + 1))})], .reg [(1, {val := some (AV.bool false)})], .reg []] [{}, {}]
          (r := ⟨[[AV.ptr 0 0, AV.int .i64 e] = renL [0] [AV.ptr 0 0, AV.int .i64 e],
              Meets Try.prog 58 [AV.ptr 0 0, AV.int .i64 e] [AObj.cells ((AV.bool mx) :: (ints .u8 ds)) 50] (AV.tuple [AV.int .i64 (capN (val (ds.take w))), AV.bool (capB (val (ds.take w)))]) [AObj.cells ((AV.bool mx) :: (ints .u8 ds)) 50],
              Fits (AObj.cells ((AV.bool mx) :: (ints .u8 ds)) 50) (AObj.ren [0] (AObj.cells ((AV.bool mx) :: (ints .u8 ds)) 50)),
              AV.ren [0] (AV.tuple [AV.int .i64 (capN (val (ds.take w))), AV.bool (capB (val (ds.take w)))]) = AV.tuple [AV.int .i64 (val (ds.take w)), AV.bool true],
              updOf [0] [AObj.cells ((AV.bool mx) :: (ints .u8 ds)) 50] [AObj.cells ((AV.bool mx) :: (ints .u8 ds)) 50] [AObj.cells ((AV.bool mx) :: (ints .u8 ds)) 50] ++ List.map (fun x => x.ren [0]) (List.drop 1 [AObj.cells ((AV.bool mx) :: (ints .u8 ds)) 50]) = [AObj.cells ((AV.bool mx) :: (ints .u8 ds)) 50],
              AV.bool (!true) = AV.bool false,
              AV.int .i64 (IntKind.i64.wrap (48 - e)) = AV.int .i64 ((w : Nat) : Int),
              0 ≤ (((w : Nat) : Int) : Int),
              ((Int.toNat (((w : Nat) : Int))) : Nat) ≤ 88,
              (88 : Nat) ≤ 88,
              (88 : Nat) ≤ 88,
              AV.slice 0 (if 88 = (Int.toNat (((w : Nat) : Int))) then 1 else 1 + (Int.toNat (((w : Nat) : Int))) * 1) (88 - (Int.toNat (((w : Nat) : Int)))) (88 - (Int.toNat (((w : Nat) : Int)))) = AV.slice 0 (w + 1) (88 - w) (88 - w),
              [AV.int .i64 (val (ds.take w)), AV.slice 0 (w + 1) (88 - w) (88 - w)] = renL [0] [AV.int .i64 (val (ds.take w)), AV.slice 0 (w + 1) ((ds.drop w).length) (88 - w)],
              Meets Try.prog 81 [AV.int .i64 (val (ds.take w)), AV.slice 0 (w + 1) ((ds.drop w).length) (88 - w)] [AObj.ro (w + 1) (ints .u8 (ds.drop w))] (AV.bool (upB (val (ds.take w)) (ds.drop w))) [AObj.ro (w + 1) (ints .u8 (ds.drop w))],
              Fits (AObj.cells ((AV.bool mx) :: (ints .u8 ds)) 50) (AObj.ren [0] (AObj.ro (w + 1) (ints .u8 (ds.drop w)))),
              AV.ren [0] (AV.bool (upB (val (ds.take w)) (ds.drop w))) = AV.bool true,
              updOf [0] [AObj.cells ((AV.bool mx) :: (ints .u8 ds)) 50] [AObj.ro (w + 1) (ints .u8 (ds.drop w))] [AObj.ro (w + 1) (ints .u8 (ds.drop w))] ++ List.map (fun x => x.ren [0]) (List.drop 1 [AObj.ro (w + 1) (ints .u8 (ds.drop w))]) = [AObj.cells ((AV.bool mx) :: (ints .u8 ds)) 50],
              AV.int .i64 (IntKind.i64.wrap ((val (ds.take w)) + 1)) = AV.int .i64 ((val (ds.take w)) + 1),
              AV.bool (decide (((val (ds.take w)) + 1) > 999999999999999)) = AV.bool false],
            .ret, ⟨[some (AV.ptr 0 0), some (AV.int .i64 e), none, none, some (AV.int .i64 ((val (ds.take w)) + 1)), some (AV.bool true), some (AV.int .i64 ((val (ds.take w)) + 1)), some (AV.bool true), some (AV.tuple [AV.int .i64 (val (ds.take w)), AV.bool true]), some (AV.ptr 0 0), some (AV.int .i64 e), some (AV.tuple [AV.int .i64 (val (ds.take w)), AV.bool true]), some (AV.int .i64 (val (ds.take w))), some (AV.bool true), some (AV.bool true), some (AV.bool false), some (AV.int .i64 (val (ds.take w))), some (AV.ptr 0 0), some (AV.ptr 0 0), some (AV.ptr 0 1), some (AV.int .i64 e), some (AV.int .i64 ((w : Nat) : Int)), some (AV.slice 0 (w + 1) (88 - w) (88 - w)), some (AV.bool true), some (AV.int .i64 (val (ds.take w))), some (AV.int .i64 ((val (ds.take w)) + 1)), some (AV.int .i64 ((val (ds.take w)) + 1)), some (AV.bool false), some (AV.int .i64 ((val (ds.take w)) + 1))], [some (AObj.cells ((AV.bool mx) :: (ints .u8 ds)) 50)]⟩, []⟩)
          (ob := [AV.tuple [AV.int .i64 ((val (ds.take w)) + 1), AV.bool true] = AV.tuple [AV.int .i64 (capN (evenN ds w)), AV.bool (capB (evenN ds w))],
              Avoid (fun n => decide (1 ≤ n)) (AV.tuple [AV.int .i64 (capN (evenN ds w)), AV.bool (capB (evenN ds w))]),
              AObj.cells ((AV.bool mx) :: (ints .u8 ds)) 50 = AObj.cells ((AV.bool mx) :: (ints .u8 ds)) 50,
              AvoidO (fun n => decide (1 ≤ n)) (AObj.cells ((AV.bool mx) :: (ints .u8 ds)) 50)])
          Try.func66 (by kernel_rfl) Try.call66 (by kernel_rfl)
          ⟨rfl, whole_meets mx ds e w hl hd (by omega) hw, Fits.of_eq (by simp only [AObj.ren, renL, AV.ren, renL_ints, renL_u8s, renL_append]), cap_pos c1, by simp [updOf, AObj.owned, AObj.ren, renL, AV.ren, renL_ints, renL_u8s, renL_append], rfl, wI (by omega), by omega, by omega, by omega, by omega, sliceE (by first | (split <;> omega) | (simp; omega) | simp) (by omega) (by omega), by simp only [renL, AV.ren, List.length_drop, hl]; rfl, goesUp_meets _ (ds.drop w) (w + 1) (88 - w) (val_bounds _ (hd.take w)).1 (hd.drop w) (by rw [List.length_drop]; omega) (by rw [List.length_drop]; omega) (by omega), fits_fig _ rfl List.take_length, boolT c2, rfl, wI (by omega), bF c3, trivial⟩
          (.inl rfl) (by kernel_rfl) ⟨capE_pos' (even_up c2) (by omega), Avoid.tuple (AvoidL.cons (Avoid.int _ _ _) (AvoidL.cons (Avoid.bool _ _) (AvoidL.nil _))), rfl, AvoidO.cells (AvoidL.cons (Avoid.bool _ _) (AvoidL.ints _ _ _)), trivial⟩
    · by_cases c3 : (val (ds.take w)) > 999999999999999
      · exact meets_of_exec (fn := Try.f66) 0 [.reg [], .reg [(2, {call := some ⟨[0], [AV.ptr 0 0, AV.int .i64 e], [AObj.cells ((AV.bool mx) :: (ints .u8 ds)) 50], AV.tuple [AV.int .i64 (capN (val (ds.take w))), AV.bool (capB (val (ds.take w)))], [AObj.cells ((AV.bool mx) :: (ints .u8 ds)) 50]⟩, val := some (AV.tuple [AV.int .i64 (val (ds.take w)), AV.bool true]), obj := some [AObj.cells ((AV.bool mx) :: (ints .u8 ds)) 50]})], .reg [(1, {val := some (AV.bool false)})], .reg [(5, {val := some (AV.int .i64 ((w : Nat) : Int))}), (6, {val := some (AV.slice 0 (w + 1) (88 - w) (88 - w))}), (7, {call := some ⟨[0], [AV.int .i64 (val (ds.take w)), AV.slice 0 (w + 1) ((ds.drop w).length) (88 - w)], [AObj.ro (w + 1) (ints .u8 (ds.drop w))], AV.bool (upB (val (ds.take w)) (ds.drop w)), [AObj.ro (w + 1) (ints .u8 (ds.drop w))]⟩, val := some (AV.bool false), obj := some [AObj.cells ((AV.bool mx) :: (ints .u8 ds)) 50]})], .reg [(1, {val := some (AV.bool true)})], .reg []] [{}, {}]
          (r := ⟨[[AV.ptr 0 0, AV.int .i64 e] = renL [0] [AV.ptr 0 0, AV.int .i64 e],
              Meets Try.prog 58 [AV.ptr 0 0, AV.int .i64 e] [AObj.cells ((AV.bool mx) :: (ints .u8 ds)) 50] (AV.tuple [AV.int .i64 (capN (val (ds.take w))), AV.bool (capB (val (ds.take w)))]) [AObj.cells ((AV.bool mx) :: (ints .u8 ds)) 50],
              Fits (AObj.cells ((AV.bool mx) :: (ints .u8 ds)) 50) (AObj.ren [0] (AObj.cells ((AV.bool mx) :: (ints .u8 ds)) 50)),
              AV.ren [0] (AV.tuple [AV.int .i64 (capN (val (ds.take w))), AV.bool (capB (val (ds.take w)))]) = AV.tuple [AV.int .i64 (val (ds.take w)), AV.bool true],
              updOf [0] [AObj.cells ((AV.bool mx) :: (ints .u8 ds)) 50] [AObj.cells ((AV.bool mx) :: (ints .u8 ds)) 50] [AObj.cells ((AV.bool mx) :: (ints .u8 ds)) 50] ++ List.map (fun x => x.ren [0]) (List.drop 1 [AObj.cells ((AV.bool mx) :: (ints .u8 ds)) 50]) = [AObj.cells ((AV.bool mx) :: (ints .u8 ds)) 50],
              AV.bool (!true) = AV.bool false,
              AV.int .i64 (IntKind.i64.wrap (48 - e)) = AV.int .i64 ((w : Nat) : Int),
              0 ≤ (((w : Nat) : Int) : Int),
              ((Int.toNat (((w : Nat) : Int))) : Nat) ≤ 88,
              (88 : Nat) ≤ 88,
              (88 : Nat) ≤ 88,
              AV.slice 0 (if 88 = (Int.toNat (((w : Nat) : Int))) then 1 else 1 + (Int.toNat (((w : Nat) : Int))) * 1) (88 - (Int.toNat (((w : Nat) : Int)))) (88 - (Int.toNat (((w : Nat) : Int)))) = AV.slice 0 (w + 1) (88 - w) (88 - w),
              [AV.int .i64 (val (ds.take w)), AV.slice 0 (w + 1) (88 - w) (88 - w)] = renL [0] [AV.int .i64 (val (ds.take w)), AV.slice 0 (w + 1) ((ds.drop w).length) (88 - w)],
              Meets Try.prog 81 [AV.int .i64 (val (ds.take w)), AV.slice 0 (w + 1) ((ds.drop w).length) (88 - w)] [AObj.ro (w + 1) (ints .u8 (ds.drop w))] (AV.bool (upB (val (ds.take w)) (ds.drop w))) [AObj.ro (w + 1) (ints .u8 (ds.drop w))],
              Fits (AObj.cells ((AV.bool mx) :: (ints .u8 ds)) 50) (AObj.ren [0] (AObj.ro (w + 1) (ints .u8 (ds.drop w)))),
              AV.ren [0] (AV.bool (upB (val (ds.take w)) (ds.drop w))) = AV.bool false,
              updOf [0] [AObj.cells ((AV.bool mx) :: (ints .u8 ds)) 50] [AObj.ro (w + 1) (ints .u8 (ds.drop w))] [AObj.ro (w + 1) (ints .u8 (ds.drop w))] ++ List.map (fun x => x.ren [0]) (List.drop 1 [AObj.ro (w + 1) (ints .u8 (ds.drop w))]) = [AObj.cells ((AV.bool mx) :: (ints .u8 ds)) 50],
              AV.bool (decide ((val (ds.take w)) > 999999999999999)) = AV.bool true],
            .ret, ⟨[some (AV.ptr 0 0), some (AV.int .i64 e), none, none, some (AV.int .i64 0), some (AV.bool false), some (AV.int .i64 (val (ds.take w))), some (AV.bool true), some (AV.tuple [AV.int .i64 (val (ds.take w)), AV.bool true]), some (AV.ptr 0 0), some (AV.int .i64 e), some (AV.tuple [AV.int .i64 (val (ds.take w)), AV.bool true]), some (AV.int .i64 (val (ds.take w))), some (AV.bool true), some (AV.bool true), some (AV.bool false), some (AV.int .i64 (val (ds.take w))), some (AV.ptr 0 0), some (AV.ptr 0 0), some (AV.ptr 0 1), some (AV.int .i64 e), some (AV.int .i64 ((w : Nat) : Int)), some (AV.slice 0 (w + 1) (88 - w) (88 - w)), some (AV.bool false), none, none, some (AV.int .i64 (val (ds.take w))), some (AV.bool true), none], [some (AObj.cells ((AV.bool mx) :: (ints .u8 ds)) 50)]⟩, []⟩)
          (ob := [AV.tuple [AV.int .i64 0, AV.bool false] = AV.tuple [AV.int .i64 (capN (evenN ds w)), AV.bool (capB (evenN ds w))],
              Avoid (fun n => decide (1 ≤ n)) (AV.tuple [AV.int .i64 (capN (evenN ds w)), AV.bool (capB (evenN ds w))]),
              AObj.cells ((AV.bool mx) :: (ints .u8 ds)) 50 = AObj.cells ((AV.bool mx) :: (ints .u8 ds)) 50,
              AvoidO (fun n => decide (1 ≤ n)) (AObj.cells ((AV.bool mx) :: (ints .u8 ds)) 50)])
          Try.func66 (by kernel_rfl) Try.call66 (by kernel_rfl)
          ⟨rfl, whole_meets mx ds e w hl hd (by omega) hw, Fits.of_eq (by simp only [AObj.ren, renL, AV.ren, renL_ints, renL_u8s, renL_append]), cap_pos c1, by simp [updOf, AObj.owned, AObj.ren, renL, AV.ren, renL_ints, renL_u8s, renL_append], rfl, wI (by omega), by omega, by omega, by omega, by omega, sliceE (by first | (split <;> omega) | (simp; omega) | simp) (by omega) (by omega), by simp only [renL, AV.ren, List.length_drop, hl]; rfl, goesUp_meets _ (ds.drop w) (w + 1) (88 - w) (val_bounds _ (hd.take w)).1 (hd.drop w) (by rw [List.length_drop]; omega) (by rw [List.length_drop]; omega) (by omega), fits_fig _ rfl List.take_length, boolF c2, rfl, bT c3, trivial⟩
          (.inl rfl) (by kernel_rfl) ⟨capE_neg (by first | omega | (have := even_up c2; omega)), Avoid.tuple (AvoidL.cons (Avoid.int _ _ _) (AvoidL.cons (Avoid.bool _ _) (AvoidL.nil _))), rfl, AvoidO.cells (AvoidL.cons (Avoid.bool _ _) (AvoidL.ints _ _ _)), trivial⟩
      · exact meets_of_exec (fn := Try.f66) 0 [.reg [], .reg [(2, {call := some ⟨[0], [AV.ptr 0 0, AV.int .i64 e], [AObj.cells ((AV.bool mx) :: (ints .u8 ds)) 50], AV.tuple [AV.int .i64 (capN (val (ds.take w))), AV.bool (capB (val (ds.take w)))], [AObj.cells ((AV.bool mx) :: (ints .u8 ds)) 50]⟩, val := some (AV.tuple [AV.int .i64 (val (ds.take w)), AV.bool true]), obj := some [AObj.cells ((AV.bool mx) :: (ints .u8 ds)) 50]})], .reg [(1, {val := some (AV.bool false)})], .reg [(5, {val := some (AV.int .i64 ((w : Nat) : Int))}), (6, {val := some (AV.slice 0 (w + 1) (88 - w) (88 - w))}), (7, {call := some ⟨[0], [AV.int .i64 (val (ds.take w)), AV.slice 0 (w + 1) ((ds.drop w).length) (88 - w)], [AObj.ro (w + 1) (ints .u8 (ds.drop w))], AV.bool (upB (val (ds.take w)) (ds.drop w)), [AObj.ro (w + 1) (ints .u8 (ds.drop w))]⟩, val := some (AV.bool false), obj := some [AObj.cells ((AV.bool mx) :: (ints .u8 ds)) 50]})], .reg [(1, {val := some (AV.bool false)})], .reg []] [{}, {}]
          (r := ⟨[[AV.ptr 0 0, AV.int .i64 e] = renL [0] [AV.ptr 0 0, AV.int .i64 e],
              Meets Try.prog 58 [AV.ptr 0 0, AV.int .i64 e] [AObj.cells ((AV.bool mx) :: (ints .u8 ds)) 50] (AV.tuple [AV.int .i64 (capN (val (ds.take w))), AV.bool (capB (val (ds.take w)))]) [AObj.cells ((AV.bool mx) :: (ints .u8 ds)) 50],
              Fits (AObj.cells ((AV.bool mx) :: (ints .u8 ds)) 50) (AObj.ren [0] (AObj.cells ((AV.bool mx) :: (ints .u8 ds)) 50)),
              AV.ren [0] (AV.tuple [AV.int .i64 (capN (val (ds.take w))), AV.bool (capB (val (ds.take w)))]) = AV.tuple [AV.int .i64 (val (ds.take w)), AV.bool true],
              updOf [0] [AObj.cells ((AV.bool mx) :: (ints .u8 ds)) 50] [AObj.cells ((AV.bool mx) :: (ints .u8 ds)) 50] [AObj.cells ((AV.bool mx) :: (ints .u8 ds)) 50] ++ List.map (fun x => x.ren [0]) (List.drop 1 [AObj.cells ((AV.bool mx) :: (ints .u8 ds)) 50]) = [AObj.cells ((AV.bool mx) :: (ints .u8 ds)) 50],
              AV.bool (!true) = AV.bool false,
              AV.int .i64 (IntKind.i64.wrap (48 - e)) = AV.int .i64 ((w : Nat) : Int),
              0 ≤ (((w : Nat) : Int) : Int),
              ((Int.toNat (((w : Nat) : Int))) : Nat) ≤ 88,
              (88 : Nat) ≤ 88,
              (88 : Nat) ≤ 88,
              AV.slice 0 (if 88 = (Int.toNat (((w : Nat) : Int))) then 1 else 1 + (Int.toNat (((w : Nat) : Int))) * 1) (88 - (Int.toNat (((w : Nat) : Int)))) (88 - (Int.toNat (((w : Nat) : Int)))) = AV.slice 0 (w + 1) (88 - w) (88 - w),
              [AV.int .i64 (val (ds.take w)), AV.slice 0 (w + 1) (88 - w) (88 - w)] = renL [0] [AV.int .i64 (val (ds.take w)), AV.slice 0 (w + 1) ((ds.drop w).length) (88 - w)],
              Meets Try.prog 81 [AV.int .i64 (val (ds.take w)), AV.slice 0 (w + 1) ((ds.drop w).length) (88 - w)] [AObj.ro (w + 1) (ints .u8 (ds.drop w))] (AV.bool (upB (val (ds.take w)) (ds.drop w))) [AObj.ro (w + 1) (ints .u8 (ds.drop w))],
              Fits (AObj.cells ((AV.bool mx) :: (ints .u8 ds)) 50) (AObj.ren [0] (AObj.ro (w + 1) (ints .u8 (ds.drop w)))),
              AV.ren [0] (AV.bool (upB (val (ds.take w)) (ds.drop w))) = AV.bool false,
              updOf [0] [AObj.cells ((AV.bool mx) :: (ints .u8 ds)) 50] [AObj.ro (w + 1) (ints .u8 (ds.drop w))] [AObj.ro (w + 1) (ints .u8 (ds.drop w))] ++ List.map (fun x => x.ren [0]) (List.drop 1 [AObj.ro (w + 1) (ints .u8 (ds.drop w))]) = [AObj.cells ((AV.bool mx) :: (ints .u8 ds)) 50],
              AV.bool (decide ((val (ds.take w)) > 999999999999999)) = AV.bool false],
            .ret, ⟨[some (AV.ptr 0 0), some (AV.int .i64 e), none, none, some (AV.int .i64 (val (ds.take w))), some (AV.bool true), some (AV.int .i64 (val (ds.take w))), some (AV.bool true), some (AV.tuple [AV.int .i64 (val (ds.take w)), AV.bool true]), some (AV.ptr 0 0), some (AV.int .i64 e), some (AV.tuple [AV.int .i64 (val (ds.take w)), AV.bool true]), some (AV.int .i64 (val (ds.take w))), some (AV.bool true), some (AV.bool true), some (AV.bool false), some (AV.int .i64 (val (ds.take w))), some (AV.ptr 0 0), some (AV.ptr 0 0), some (AV.ptr 0 1), some (AV.int .i64 e), some (AV.int .i64 ((w : Nat) : Int)), some (AV.slice 0 (w + 1) (88 - w) (88 - w)), some (AV.bool false), none, none, some (AV.int .i64 (val (ds.take w))), some (AV.bool false), some (AV.int .i64 (val (ds.take w)))], [some (AObj.cells ((AV.bool mx) :: (ints .u8 ds)) 50)]⟩, []⟩)
          (ob := [AV.tuple [AV.int .i64 (val (ds.take w)), AV.bool true] = AV.tuple [AV.int .i64 (capN (evenN ds w)), AV.bool (capB (evenN ds w))],
              Avoid (fun n => decide (1 ≤ n)) (AV.tuple [AV.int .i64 (capN (evenN ds w)), AV.bool (capB (evenN ds w))]),
              AObj.cells ((AV.bool mx) :: (ints .u8 ds)) 50 = AObj.cells ((AV.bool mx) :: (ints .u8 ds)) 50,
              AvoidO (fun n => decide (1 ≤ n)) (AObj.cells ((AV.bool mx) :: (ints .u8 ds)) 50)])
          Try.func66 (by kernel_rfl) Try.call66 (by kernel_rfl)
          ⟨rfl, whole_meets mx ds e w hl hd (by omega) hw, Fits.of_eq (by simp only [AObj.ren, renL, AV.ren, renL_ints, renL_u8s, renL_append]), cap_pos c1, by simp [updOf, AObj.owned, AObj.ren, renL, AV.ren, renL_ints, renL_u8s, renL_append], rfl, wI (by omega), by omega, by omega, by omega, by omega, sliceE (by first | (split <;> omega) | (simp; omega) | simp) (by omega) (by omega), by simp only [renL, AV.ren, List.length_drop, hl]; rfl, goesUp_meets _ (ds.drop w) (w + 1) (88 - w) (val_bounds _ (hd.take w)).1 (hd.drop w) (by rw [List.length_drop]; omega) (by rw [List.length_drop]; omega) (by omega), fits_fig _ rfl List.take_length, boolF c2, rfl, bF c3, trivial⟩
          (.inl rfl) (by kernel_rfl) ⟨capE_pos' (even_dn c2) (by omega), Avoid.tuple (AvoidL.cons (Avoid.int _ _ _) (AvoidL.cons (Avoid.bool _ _) (AvoidL.nil _))), rfl, AvoidO.cells (AvoidL.cons (Avoid.bool _ _) (AvoidL.ints _ _ _)), trivial⟩
  · exact meets_of_exec (fn := Try.f66) 0 [.reg [], .reg [(2, {call := some ⟨[0], [AV.ptr 0 0, AV.int .i64 e], [AObj.cells ((AV.bool mx) :: (ints .u8 ds)) 50], AV.tuple [AV.int .i64 (capN (val (ds.take w))), AV.bool (capB (val (ds.take w)))], [AObj.cells ((AV.bool mx) :: (ints .u8 ds)) 50]⟩, val := some (AV.tuple [AV.int .i64 0, AV.bool false]), obj := some [AObj.cells ((AV.bool mx) :: (ints .u8 ds)) 50]})], .reg [(1, {val := some (AV.bool true)})], .reg []] [{}, {}]
      (r := ⟨[[AV.ptr 0 0, AV.int .i64 e] = renL [0] [AV.ptr 0 0, AV.int .i64 e],
          Meets Try.prog 58 [AV.ptr 0 0, AV.int .i64 e] [AObj.cells ((AV.bool mx) :: (ints .u8 ds)) 50] (AV.tuple [AV.int .i64 (capN (val (ds.take w))), AV.bool (capB (val (ds.take w)))]) [AObj.cells ((AV.bool mx) :: (ints .u8 ds)) 50],
          Fits (AObj.cells ((AV.bool mx) :: (ints .u8 ds)) 50) (AObj.ren [0] (AObj.cells ((AV.bool mx) :: (ints .u8 ds)) 50)),
          AV.ren [0] (AV.tuple [AV.int .i64 (capN (val (ds.take w))), AV.bool (capB (val (ds.take w)))]) = AV.tuple [AV.int .i64 0, AV.bool false],
          updOf [0] [AObj.cells ((AV.bool mx) :: (ints .u8 ds)) 50] [AObj.cells ((AV.bool mx) :: (ints .u8 ds)) 50] [AObj.cells ((AV.bool mx) :: (ints .u8 ds)) 50] ++ List.map (fun x => x.ren [0]) (List.drop 1 [AObj.cells ((AV.bool mx) :: (ints .u8 ds)) 50]) = [AObj.cells ((AV.bool mx) :: (ints .u8 ds)) 50],
          AV.bool (!false) = AV.bool true],
        .ret, ⟨[some (AV.ptr 0 0), some (AV.int .i64 e), none, none, some (AV.int .i64 0), some (AV.bool false), some (AV.int .i64 0), some (AV.bool false), some (AV.tuple [AV.int .i64 0, AV.bool false]), some (AV.ptr 0 0), some (AV.int .i64 e), some (AV.tuple [AV.int .i64 0, AV.bool false]), some (AV.int .i64 0), some (AV.bool false), some (AV.bool false), some (AV.bool true), none, none, none, none, none, none, none, none, none, none, none, none, none], [some (AObj.cells ((AV.bool mx) :: (ints .u8 ds)) 50)]⟩, []⟩)
      (ob := [AV.tuple [AV.int .i64 0, AV.bool false] = AV.tuple [AV.int .i64 (capN (evenN ds w)), AV.bool (capB (evenN ds w))],
          Avoid (fun n => decide (1 ≤ n)) (AV.tuple [AV.int .i64 (capN (evenN ds w)), AV.bool (capB (evenN ds w))]),
          AObj.cells ((AV.bool mx) :: (ints .u8 ds)) 50 = AObj.cells ((AV.bool mx) :: (ints .u8 ds)) 50,
          AvoidO (fun n => decide (1 ≤ n)) (AObj.cells ((AV.bool mx) :: (ints .u8 ds)) 50)])
      Try.func66 (by kernel_rfl) Try.call66 (by kernel_rfl)
      ⟨rfl, whole_meets mx ds e w hl hd (by omega) hw, Fits.of_eq (by simp only [AObj.ren, renL, AV.ren, renL_ints, renL_u8s, renL_append]), cap_neg c1, by simp [updOf, AObj.owned, AObj.ren, renL, AV.ren, renL_ints, renL_u8s, renL_append], rfl, trivial⟩
      (.inl rfl) (by kernel_rfl) ⟨capE_neg (by first | omega | (have := even_up c2; omega)), Avoid.tuple (AvoidL.cons (Avoid.int _ _ _) (AvoidL.cons (Avoid.bool _ _) (AvoidL.nil _))), rfl, AvoidO.cells (AvoidL.cons (Avoid.bool _ _) (AvoidL.ints _ _ _)), trivial⟩

end Go.Proofs.Ytabgphldbgdbpaa
