import Derived.Test.YtmgiefeggkikcaaDecF
set_option linter.unusedVariables false
set_option linter.unusedSimpArgs false
set_option maxRecDepth 20000
namespace Go.Proofs.Ytmgiefeggkikcaa
open Go Sx Dc

theorem val_split (l : List Int) (w : Nat) : val l = val (l.take w) * 10 ^ (l.length - w) + val (l.drop w) := by
  have := val_append (l.take w) (l.drop w)
  rwa [List.take_append_drop, List.length_drop] at this
theorem val_head {l : List Int} (h : 0 < l.length) : val l = l.getD 0 0 * 10 ^ (l.length - 1) + val (l.drop 1) := by
  cases l with
  | nil => simp at h
  | cons d l => rw [val_cons]; simp
/-- Does what is cut off make the number before it greater by one? -/
def upB (n : Int) (l : List Int) : Bool := decide (5 * 10 ^ (l.length - 1) < val l ∨ (val l = 5 * 10 ^ (l.length - 1) ∧ n % 2 = 1))
theorem up_ne {n : Int} {l : List Int} (hd : Dig l) (h0 : 2 ≤ l.length) (c : ¬ l.getD 0 0 = 5) : AV.bool (decide (l.getD 0 0 > 5)) = AV.bool (upB n l) := by
  refine boolE (decide_eq_decide.2 ?_)
  have h1 := val_head (l := l) (by omega)
  have h2 := val_bounds _ (hd.drop 1)
  rw [List.length_drop] at h2
  rw [h1]
  generalize l.getD 0 0 = d at *
  generalize val (l.drop 1) = v at *
  have hp := pow_pos' (l.length - 1)
  generalize (10 : Int) ^ (l.length - 1) = p at *
  constructor
  · intro g
    have : 6 * p ≤ d * p := Int.mul_le_mul_of_nonneg_right (by omega) (by omega)
    left; omega
  · intro g
    rcases Int.lt_or_le 5 d with k | k
    · exact k
    · have : d * p ≤ 4 * p := Int.mul_le_mul_of_nonneg_right (by omega) (by omega)
      omega
theorem up_odd {n : Int} {l : List Int} (hd : Dig l) (h0 : 2 ≤ l.length) (c : l.getD 0 0 = 5) (c2 : n % 2 = 1) : AV.bool true = AV.bool (upB n l) := by
  refine boolE (Eq.symm (decide_eq_true ?_))
  have h1 := val_head (l := l) (by omega)
  have h2 := val_bounds _ (hd.drop 1)
  rw [h1, c]
  omega
theorem up_even {n : Int} {l : List Int} (hd : Dig l) (h0 : 2 ≤ l.length) (c : l.getD 0 0 = 5) (c2 : ¬ n % 2 = 1) : AV.bool (!decide (val (l.drop 1) = 0)) = AV.bool (upB n l) := by
  refine boolE ?_
  have h1 := val_head (l := l) (by omega)
  have h2 := val_bounds _ (hd.drop 1)
  rw [Bool.eq_iff_iff]
  simp only [upB, Bool.not_eq_true', decide_eq_false_iff_not, decide_eq_true_eq]
  rw [h1, c]
  omega
/-- A window into figures. -/
theorem fits_fig {m : AV} {ds us : List Int} {t off i : Nat} (r : List Nat) (ho : off = i + 1) (hu : (ds.drop i).take us.length = us) : Fits (.cells (m :: ints .u8 ds) t) (AObj.ren r (.ro off (ints .u8 us))) := by
  rw [show AObj.ren r (.ro off (ints .u8 us)) = .ro off (ints .u8 us) by simp only [AObj.ren, renL_ints]]
  refine Fits.ro (o0 := 0) rfl rfl (Nat.zero_le _) ?_
  rw [ho, Nat.sub_zero, List.drop_succ_cons, ints_length]
  simp only [ints] at *
  rw [← List.map_drop, ← List.map_take, hu]
theorem fits_win {o o' i : Nat} {ds us : List Int} (r : List Nat) (ho : o' = o + i) (hu : (ds.drop i).take us.length = us) : Fits (.ro o (ints .u8 ds)) (AObj.ren r (.ro o' (ints .u8 us))) := by
  rw [show AObj.ren r (.ro o' (ints .u8 us)) = .ro o' (ints .u8 us) by simp only [AObj.ren, renL_ints]]
  refine Fits.ro (o0 := o) rfl rfl (by omega) ?_
  rw [show o' - o = i by omega, ints_length]
  simp only [ints] at *
  rw [← List.map_drop, ← List.map_take, hu]

theorem goesUp_meets (n : Int) (l : List Int) (o c : Nat) (hn : 0 ≤ n) (hd : Dig l) (h0 : 2 ≤ l.length) (hc : l.length ≤ c) (hc2 : c < 1000) : Meets Try.prog 81 [jI n, AV.slice 0 o l.length c] [AObj.ro o (ints .u8 l)] (jB (upB n l)) [AObj.ro o (ints .u8 l)] := by
  have o1 := oA (oS (show 0 ≤ (0 : Int) from by decide)) <| oA (oS (show (0 : Int) < ((l.length : Nat) : Int) from by omega)) <| oA (oS (show AV.ptr 0 (o + Int.toNat (0 : Int) * 1) = jP 0 o from ptrE (by omega))) <| oA (oS (show o ≤ o from by omega)) <| oS (show (ints .u8 l : List AV)[o - o]? = some (jU (l.getD 0 0)) from ints_at [] (by simp only [List.length_nil, List.length_cons] <;> omega) (by omega))
  let q1 : List Orc := [rG []]
  by_cases c1 : (l.getD 0 0) = 5
  · have o2 := oA (oS (neF c1)) <| oA (oS (show (2 : Int) ≠ 0 from by decide)) <| oS (show AV.int .i64 (n.tmod 2) = jI (n % 2) from remI (by omega))
    let q2 : List Orc := [rG [hhV 1 (jP 0 o), hhV 2 (jU (l.getD 0 0)), hhB 3 false]]
    by_cases c2 : (n % 2) = 1
    · exact meets_run (fn := Try.f81) 0 (q1 ++ (q2 ++ [rG [hhI 1 (n % 2), hhB 2 true]])) [{}] Try.func81 (by kernel_rfl) Try.call81
        (oA o1 <| oA o2 <| oS (eqT c2))
        (oA (oS (show jB true = jB (upB n l) from up_odd hd h0 c1 c2)) <| oA (oS (show AObj.ro o (ints .u8 l) = AObj.ro o (ints .u8 l) from rfl)) <| oS (show AvoidO (fun n => decide (1 ≤ n)) (AObj.ro o (ints .u8 l)) from AvoidO.ro (AvoidL.ints _ _ _))) (by kernel_rfl)
    · exact meets_run (fn := Try.f81) 0 (q1 ++ (q2 ++ [rG [hhI 1 (n % 2), hhB 2 false, hhV 5 (AV.slice 0 (o + 1) (l.length - 1) (c - 1)), (6, {call := some ⟨[0], [AV.slice 0 (o + 1) ((l.drop 1).length) (c - 1)], [AObj.ro (o + 1) (ints .u8 (l.drop 1))], jB (decide (val (l.drop 1) = 0)), [AObj.ro (o + 1) (ints .u8 (l.drop 1))]⟩, obj := some [AObj.ro o (ints .u8 l)]})]])) [{}] Try.func81 (by kernel_rfl) Try.call81
        (oA o1 <| oA o2 <| oA (oS (eqF c2)) <| oA (oS (show 0 ≤ (1 : Int) from by omega)) <| oA (oS (show ((Int.toNat (1 : Int)) : Nat) ≤ l.length from by omega)) <| oA (oS (show (l.length : Nat) ≤ c from by omega)) <| oA (oS (show (c : Nat) ≤ c from by omega)) <| oA (oS (show AV.slice 0 (if c = (Int.toNat (1 : Int)) then o else o + (Int.toNat (1 : Int)) * 1) (l.length - (Int.toNat (1 : Int))) (c - (Int.toNat (1 : Int))) = AV.slice 0 (o + 1) (l.length - 1) (c - 1) from sliceE (by first | (split <;> omega) | (simp; omega) | simp) (by omega) (by omega))) <| oA (oS (show [AV.slice 0 (o + 1) (l.length - 1) (c - 1)] = renL [0] [AV.slice 0 (o + 1) ((l.drop 1).length) (c - 1)] from by simp only [renL, AV.ren, List.length_drop]; rfl)) <| oA (oS (show Meets Try.prog 59 [AV.slice 0 (o + 1) ((l.drop 1).length) (c - 1)] [AObj.ro (o + 1) (ints .u8 (l.drop 1))] (jB (decide (val (l.drop 1) = 0))) [AObj.ro (o + 1) (ints .u8 (l.drop 1))] from none_meets (l.drop 1) (o + 1) (c - 1) (by rw [List.length_drop]; omega) (by rw [List.length_drop]; omega) (hd.drop 1))) <| oA (oS (show Fits (AObj.ro o (ints .u8 l)) (AObj.ren [0] (AObj.ro (o + 1) (ints .u8 (l.drop 1)))) from fits_win _ rfl List.take_length)) <| oS (show updOf [0] [AObj.ro o (ints .u8 l)] [AObj.ro (o + 1) (ints .u8 (l.drop 1))] [AObj.ro (o + 1) (ints .u8 (l.drop 1))] ++ List.map (fun x => x.ren [0]) (List.drop 1 [AObj.ro (o + 1) (ints .u8 (l.drop 1))]) = [AObj.ro o (ints .u8 l)] from rfl))
        (oA (oS (show jB (!(decide (val (l.drop 1) = 0))) = jB (upB n l) from up_even hd h0 c1 c2)) <| oA (oS (show AObj.ro o (ints .u8 l) = AObj.ro o (ints .u8 l) from rfl)) <| oS (show AvoidO (fun n => decide (1 ≤ n)) (AObj.ro o (ints .u8 l)) from AvoidO.ro (AvoidL.ints _ _ _))) (by kernel_rfl)
  · exact meets_run (fn := Try.f81) 0 (q1 ++ [rG [hhV 1 (jP 0 o), hhV 2 (jU (l.getD 0 0)), hhB 3 true], rG [hhV 1 (jP 0 o), hhV 2 (jU (l.getD 0 0))]]) [{}] Try.func81 (by kernel_rfl) Try.call81
      (oA o1 <| oA (oS (neT c1)) <| oA (oS (show 0 ≤ (0 : Int) from by decide)) <| oA (oS (show (0 : Int) < ((l.length : Nat) : Int) from by omega)) <| oA (oS (show AV.ptr 0 (o + Int.toNat (0 : Int) * 1) = jP 0 o from ptrE (by omega))) <| oA (oS (show o ≤ o from by omega)) <| oS (show (ints .u8 l : List AV)[o - o]? = some (jU (l.getD 0 0)) from ints_at [] (by simp only [List.length_nil, List.length_cons] <;> omega) (by omega)))
      (oA (oS (show jB (decide ((l.getD 0 0) > 5)) = jB (upB n l) from up_ne hd h0 c1)) <| oA (oS (show AObj.ro o (ints .u8 l) = AObj.ro o (ints .u8 l) from rfl)) <| oS (show AvoidO (fun n => decide (1 ≤ n)) (AObj.ro o (ints .u8 l)) from AvoidO.ro (AvoidL.ints _ _ _))) (by kernel_rfl)

theorem capE_pos' {n k : Int} (e : k = n) (h : n ≤ 999999999999999) : AV.tuple [.int .i64 n, .bool true] = AV.tuple [.int .i64 (capN k), .bool (capB k)] := by subst e; exact capE_pos h
def evenN (ds : List Int) (w : Nat) : Int := if upB (val (ds.take w)) (ds.drop w) = true then val (ds.take w) + 1 else val (ds.take w)
theorem evenN_ge (ds : List Int) (w : Nat) : val (ds.take w) ≤ evenN ds w ∧ evenN ds w ≤ val (ds.take w) + 1 := by unfold evenN; split <;> omega
theorem even_up {ds : List Int} {w : Nat} (h : upB (val (ds.take w)) (ds.drop w) = true) : evenN ds w = val (ds.take w) + 1 := by simp [evenN, h]
theorem even_dn {ds : List Int} {w : Nat} (h : ¬ upB (val (ds.take w)) (ds.drop w) = true) : evenN ds w = val (ds.take w) := by simp [evenN, h]

theorem even_meets (mx : Bool) (ds : List Int) (e : Int) (w : Nat) (hl : ds.length = 88) (hd : Dig ds) (he : -10 ≤ e ∧ e ≤ 10) (hw : 48 - e = w) : Meets Try.prog 66 [jP 0 0, jI e] [jC ((jB mx) :: (ints .u8 ds)) 50] (jT [jI (capN (evenN ds w)), jB (capB (evenN ds w))]) [jC ((jB mx) :: (ints .u8 ds)) 50] := by
  have hge := evenN_ge ds w
  have hb := (val_bounds _ (hd.take w)).1
  let q1 : List Orc := [rG []]
  by_cases c1 : val (ds.take w) ≤ 999999999999999
  · have o1 := oA (oS (show [jP 0 0, jI e] = renL [0] [jP 0 0, jI e] from rfl)) <| oA (oS (show Meets Try.prog 58 [jP 0 0, jI e] [jC ((jB mx) :: (ints .u8 ds)) 50] (jT [jI (capN (val (ds.take w))), jB (capB (val (ds.take w)))]) [jC ((jB mx) :: (ints .u8 ds)) 50] from whole_meets mx ds e w hl hd (by omega) hw)) <| oA (oS (show Fits (jC ((jB mx) :: (ints .u8 ds)) 50) (AObj.ren [0] (jC ((jB mx) :: (ints .u8 ds)) 50)) from Fits.of_eq (by simp only [AObj.ren, renL, AV.ren, renL_ints, renL_u8s, renL_append]))) <| oA (oS (show AV.ren [0] (jT [jI (capN (val (ds.take w))), jB (capB (val (ds.take w)))]) = jT [jI (val (ds.take w)), jB true] from cap_pos c1)) <| oA (oS (show updOf [0] [jC ((jB mx) :: (ints .u8 ds)) 50] [jC ((jB mx) :: (ints .u8 ds)) 50] [jC ((jB mx) :: (ints .u8 ds)) 50] ++ List.map (fun x => x.ren [0]) (List.drop 1 [jC ((jB mx) :: (ints .u8 ds)) 50]) = [jC ((jB mx) :: (ints .u8 ds)) 50] from by simp [updOf, AObj.owned, AObj.ren, renL, AV.ren, renL_ints, renL_u8s, renL_append])) <| oA (oS (show AV.bool (!true) = jB false from rfl)) <| oA (oW (48 - e) ((w : Nat) : Int) (by omega)) <| oA (oS (show 0 ≤ (((w : Nat) : Int) : Int) from by omega)) <| oA (oS (show ((Int.toNat (((w : Nat) : Int))) : Nat) ≤ 88 from by omega)) <| oA (oS (show (88 : Nat) ≤ 88 from by omega)) <| oA (oS (show (88 : Nat) ≤ 88 from by omega)) <| oA (oS (show AV.slice 0 (if 88 = (Int.toNat (((w : Nat) : Int))) then 1 else 1 + (Int.toNat (((w : Nat) : Int))) * 1) (88 - (Int.toNat (((w : Nat) : Int)))) (88 - (Int.toNat (((w : Nat) : Int)))) = AV.slice 0 (w + 1) (88 - w) (88 - w) from sliceE (by first | (split <;> omega) | (simp; omega) | simp) (by omega) (by omega))) <| oA (oS (show [jI (val (ds.take w)), AV.slice 0 (w + 1) (88 - w) (88 - w)] = renL [0] [jI (val (ds.take w)), AV.slice 0 (w + 1) ((ds.drop w).length) (88 - w)] from by simp only [renL, AV.ren, List.length_drop, hl]; rfl)) <| oA (oS (show Meets Try.prog 81 [jI (val (ds.take w)), AV.slice 0 (w + 1) ((ds.drop w).length) (88 - w)] [AObj.ro (w + 1) (ints .u8 (ds.drop w))] (jB (upB (val (ds.take w)) (ds.drop w))) [AObj.ro (w + 1) (ints .u8 (ds.drop w))] from goesUp_meets _ (ds.drop w) (w + 1) (88 - w) (val_bounds _ (hd.take w)).1 (hd.drop w) (by rw [List.length_drop]; omega) (by rw [List.length_drop]; omega) (by omega))) <| oS (show Fits (jC ((jB mx) :: (ints .u8 ds)) 50) (AObj.ren [0] (AObj.ro (w + 1) (ints .u8 (ds.drop w)))) from fits_fig _ rfl List.take_length)
    let q2 : List Orc := [rG [(2, {call := some ⟨[0], [jP 0 0, jI e], [jC ((jB mx) :: (ints .u8 ds)) 50], jT [jI (capN (val (ds.take w))), jB (capB (val (ds.take w)))], [jC ((jB mx) :: (ints .u8 ds)) 50]⟩, val := some (jT [jI (val (ds.take w)), jB true]), obj := some [jC ((jB mx) :: (ints .u8 ds)) 50]})], rG [hhB 1 false]]
    by_cases c2 : upB (val (ds.take w)) (ds.drop w) = true
    · have o2 := oA (oS (boolT c2)) <| oA (oS (show updOf [0] [jC ((jB mx) :: (ints .u8 ds)) 50] [AObj.ro (w + 1) (ints .u8 (ds.drop w))] [AObj.ro (w + 1) (ints .u8 (ds.drop w))] ++ List.map (fun x => x.ren [0]) (List.drop 1 [AObj.ro (w + 1) (ints .u8 (ds.drop w))]) = [jC ((jB mx) :: (ints .u8 ds)) 50] from rfl)) <| oWs ((val (ds.take w)) + 1) (by omega)
      let q3 : List Orc := [rG [hhI 5 ((w : Nat) : Int), hhV 6 (AV.slice 0 (w + 1) (88 - w) (88 - w)), (7, {call := some ⟨[0], [jI (val (ds.take w)), AV.slice 0 (w + 1) ((ds.drop w).length) (88 - w)], [AObj.ro (w + 1) (ints .u8 (ds.drop w))], jB (upB (val (ds.take w)) (ds.drop w)), [AObj.ro (w + 1) (ints .u8 (ds.drop w))]⟩, val := some (jB true), obj := some [jC ((jB mx) :: (ints .u8 ds)) 50]})], rG [hhI 1 ((val (ds.take w)) + 1)]]
      by_cases c3 : ((val (ds.take w)) + 1) > 999999999999999
      · exact meets_run (fn := Try.f66) 0 (q1 ++ (q2 ++ (q3 ++ [rG [hhB 1 true], rG []]))) [{}, {}] Try.func66 (by kernel_rfl) Try.call66
          (oA o1 <| oA o2 <| oS (bT c3))
          (oA (oS (show jT [jI 0, jB false] = jT [jI (capN (evenN ds w)), jB (capB (evenN ds w))] from capE_neg (by first | omega | (have := even_up c2; omega)))) <| oA (oV (D := (fun n => decide (1 ≤ n))) (jT [jI (capN (evenN ds w)), jB (capB (evenN ds w))]) rfl) <| oA (oS (show jC ((jB mx) :: (ints .u8 ds)) 50 = jC ((jB mx) :: (ints .u8 ds)) 50 from rfl)) <| oS (show AvoidO (fun n => decide (1 ≤ n)) (jC ((jB mx) :: (ints .u8 ds)) 50) from AvoidO.cells (AvoidL.cons (Avoid.bool _ _) (AvoidL.ints _ _ _)))) (by kernel_rfl)
      · exact meets_run (fn := Try.f66) 0 (q1 ++ (q2 ++ (q3 ++ [rG [hhB 1 false], rG []]))) [{}, {}] Try.func66 (by kernel_rfl) Try.call66
          (oA o1 <| oA o2 <| oS (bF c3))
          (oA (oS (show jT [jI ((val (ds.take w)) + 1), jB true] = jT [jI (capN (evenN ds w)), jB (capB (evenN ds w))] from capE_pos' (even_up c2) (by omega))) <| oA (oV (D := (fun n => decide (1 ≤ n))) (jT [jI (capN (evenN ds w)), jB (capB (evenN ds w))]) rfl) <| oA (oS (show jC ((jB mx) :: (ints .u8 ds)) 50 = jC ((jB mx) :: (ints .u8 ds)) 50 from rfl)) <| oS (show AvoidO (fun n => decide (1 ≤ n)) (jC ((jB mx) :: (ints .u8 ds)) 50) from AvoidO.cells (AvoidL.cons (Avoid.bool _ _) (AvoidL.ints _ _ _)))) (by kernel_rfl)
    · have o2 := oA (oS (boolF c2)) <| oS (show updOf [0] [jC ((jB mx) :: (ints .u8 ds)) 50] [AObj.ro (w + 1) (ints .u8 (ds.drop w))] [AObj.ro (w + 1) (ints .u8 (ds.drop w))] ++ List.map (fun x => x.ren [0]) (List.drop 1 [AObj.ro (w + 1) (ints .u8 (ds.drop w))]) = [jC ((jB mx) :: (ints .u8 ds)) 50] from rfl)
      let q3 : List Orc := [rG [hhI 5 ((w : Nat) : Int), hhV 6 (AV.slice 0 (w + 1) (88 - w) (88 - w)), (7, {call := some ⟨[0], [jI (val (ds.take w)), AV.slice 0 (w + 1) ((ds.drop w).length) (88 - w)], [AObj.ro (w + 1) (ints .u8 (ds.drop w))], jB (upB (val (ds.take w)) (ds.drop w)), [AObj.ro (w + 1) (ints .u8 (ds.drop w))]⟩, val := some (jB false), obj := some [jC ((jB mx) :: (ints .u8 ds)) 50]})]]
      by_cases c3 : (val (ds.take w)) > 999999999999999
      · exact meets_run (fn := Try.f66) 0 (q1 ++ (q2 ++ (q3 ++ [rG [hhB 1 true], rG []]))) [{}, {}] Try.func66 (by kernel_rfl) Try.call66
          (oA o1 <| oA o2 <| oS (bT c3))
          (oA (oS (show jT [jI 0, jB false] = jT [jI (capN (evenN ds w)), jB (capB (evenN ds w))] from capE_neg (by first | omega | (have := even_up c2; omega)))) <| oA (oV (D := (fun n => decide (1 ≤ n))) (jT [jI (capN (evenN ds w)), jB (capB (evenN ds w))]) rfl) <| oA (oS (show jC ((jB mx) :: (ints .u8 ds)) 50 = jC ((jB mx) :: (ints .u8 ds)) 50 from rfl)) <| oS (show AvoidO (fun n => decide (1 ≤ n)) (jC ((jB mx) :: (ints .u8 ds)) 50) from AvoidO.cells (AvoidL.cons (Avoid.bool _ _) (AvoidL.ints _ _ _)))) (by kernel_rfl)
      · exact meets_run (fn := Try.f66) 0 (q1 ++ (q2 ++ (q3 ++ [rG [hhB 1 false], rG []]))) [{}, {}] Try.func66 (by kernel_rfl) Try.call66
          (oA o1 <| oA o2 <| oS (bF c3))
          (oA (oS (show jT [jI (val (ds.take w)), jB true] = jT [jI (capN (evenN ds w)), jB (capB (evenN ds w))] from capE_pos' (even_dn c2) (by omega))) <| oA (oV (D := (fun n => decide (1 ≤ n))) (jT [jI (capN (evenN ds w)), jB (capB (evenN ds w))]) rfl) <| oA (oS (show jC ((jB mx) :: (ints .u8 ds)) 50 = jC ((jB mx) :: (ints .u8 ds)) 50 from rfl)) <| oS (show AvoidO (fun n => decide (1 ≤ n)) (jC ((jB mx) :: (ints .u8 ds)) 50) from AvoidO.cells (AvoidL.cons (Avoid.bool _ _) (AvoidL.ints _ _ _)))) (by kernel_rfl)
  · exact meets_run (fn := Try.f66) 0 (q1 ++ [rG [(2, {call := some ⟨[0], [jP 0 0, jI e], [jC ((jB mx) :: (ints .u8 ds)) 50], jT [jI (capN (val (ds.take w))), jB (capB (val (ds.take w)))], [jC ((jB mx) :: (ints .u8 ds)) 50]⟩, val := some (jT [jI 0, jB false]), obj := some [jC ((jB mx) :: (ints .u8 ds)) 50]})], rG [hhB 1 true], rG []]) [{}, {}] Try.func66 (by kernel_rfl) Try.call66
      (oA (oS (show [jP 0 0, jI e] = renL [0] [jP 0 0, jI e] from rfl)) <| oA (oS (show Meets Try.prog 58 [jP 0 0, jI e] [jC ((jB mx) :: (ints .u8 ds)) 50] (jT [jI (capN (val (ds.take w))), jB (capB (val (ds.take w)))]) [jC ((jB mx) :: (ints .u8 ds)) 50] from whole_meets mx ds e w hl hd (by omega) hw)) <| oA (oS (show Fits (jC ((jB mx) :: (ints .u8 ds)) 50) (AObj.ren [0] (jC ((jB mx) :: (ints .u8 ds)) 50)) from Fits.of_eq (by simp only [AObj.ren, renL, AV.ren, renL_ints, renL_u8s, renL_append]))) <| oA (oS (show AV.ren [0] (jT [jI (capN (val (ds.take w))), jB (capB (val (ds.take w)))]) = jT [jI 0, jB false] from cap_neg c1)) <| oA (oS (show updOf [0] [jC ((jB mx) :: (ints .u8 ds)) 50] [jC ((jB mx) :: (ints .u8 ds)) 50] [jC ((jB mx) :: (ints .u8 ds)) 50] ++ List.map (fun x => x.ren [0]) (List.drop 1 [jC ((jB mx) :: (ints .u8 ds)) 50]) = [jC ((jB mx) :: (ints .u8 ds)) 50] from by simp [updOf, AObj.owned, AObj.ren, renL, AV.ren, renL_ints, renL_u8s, renL_append])) <| oS (show AV.bool (!false) = jB true from rfl))
      (oA (oS (show jT [jI 0, jB false] = jT [jI (capN (evenN ds w)), jB (capB (evenN ds w))] from capE_neg (by first | omega | (have := even_up c2; omega)))) <| oA (oV (D := (fun n => decide (1 ≤ n))) (jT [jI (capN (evenN ds w)), jB (capB (evenN ds w))]) rfl) <| oA (oS (show jC ((jB mx) :: (ints .u8 ds)) 50 = jC ((jB mx) :: (ints .u8 ds)) 50 from rfl)) <| oS (show AvoidO (fun n => decide (1 ≤ n)) (jC ((jB mx) :: (ints .u8 ds)) 50) from AvoidO.cells (AvoidL.cons (Avoid.bool _ _) (AvoidL.ints _ _ _)))) (by kernel_rfl)

end Go.Proofs.Ytmgiefeggkikcaa
