
import Derived.Test.YtdomenmfkbfakaaGreatDoorGr05
import Derived.Lib.Bytealg
import Derived.Test.YtdomenmfkbfakaaGreatDoorProg
import Derived.KernelRfl
set_option linter.unusedVariables false
set_option linter.unusedSimpArgs false
set_option maxRecDepth 20000
namespace Go.Proofs.YtdomenmfkbfakaaGreatDoor.Dq
open Go Sx Dc

theorem val_head {l : List Int} (h : 0 < l.length) : val l = l.getD 0 0 * 10 ^ (l.length - 1) + val (l.drop 1) := by
  cases l with
  | nil => simp at h
  | cons d l => rw [val_cons]; simp
/-- Does what is cut off make the number before it greater by one? -/
def upB (n : Int) (l : List Int) : Bool := decide (5 * 10 ^ (l.length - 1) < val l ∨ (val l = 5 * 10 ^ (l.length - 1) ∧ n % 2 = 1))
theorem up_ne {n : Int} {l : List Int} (hd : Dig l) (h0 : 2 ≤ l.length) (c : ¬ l.getD 0 0 = 5) : AV.bool (decide (l.getD 0 0 > 5)) = AV.bool (upB n l) := by
  refine boolE (decide_eq_decide.2 ?_)
  have h1 := val_head (l := l) (by omega)
  have h2 := val_bounds _ (hd.drop 1)
  rw [List.length_drop] at h2
  rw [h1]
  generalize l.getD 0 0 = d at *
  generalize val (l.drop 1) = v at *
  have hp := pow_pos' (l.length - 1)
  generalize (10 : Int) ^ (l.length - 1) = p at *
  constructor
  · intro g
    have : 6 * p ≤ d * p := Int.mul_le_mul_of_nonneg_right (by omega) (by omega)
    left; omega
  · intro g
    rcases Int.lt_or_le 5 d with k | k
    · exact k
    · have : d * p ≤ 4 * p := Int.mul_le_mul_of_nonneg_right (by omega) (by omega)
      omega
theorem up_odd {n : Int} {l : List Int} (hd : Dig l) (h0 : 2 ≤ l.length) (c : l.getD 0 0 = 5) (c2 : n % 2 = 1) : AV.bool true = AV.bool (upB n l) := by
  refine boolE (Eq.symm (decide_eq_true ?_))
  have h1 := val_head (l := l) (by omega)
  have h2 := val_bounds _ (hd.drop 1)
  rw [h1, c]
  omega
theorem up_even {n : Int} {l : List Int} (hd : Dig l) (h0 : 2 ≤ l.length) (c : l.getD 0 0 = 5) (c2 : ¬ n % 2 = 1) : AV.bool (!decide (val (l.drop 1) = 0)) = AV.bool (upB n l) := by
  refine boolE ?_
  have h1 := val_head (l := l) (by omega)
  have h2 := val_bounds _ (hd.drop 1)
  rw [Bool.eq_iff_iff]
  simp only [upB, Bool.not_eq_true', decide_eq_false_iff_not, decide_eq_true_eq]
  rw [h1, c]
  omega
/-- A window into figures. -/
theorem fits_fig {m : AV} {ds us : List Int} {t off i : Nat} (r : List Nat) (ho : off = i + 1) (hu : (ds.drop i).take us.length = us) : Fits (.cells (m :: ints .u8 ds) t) (AObj.ren r (.ro off (ints .u8 us))) := by
  rw [show AObj.ren r (.ro off (ints .u8 us)) = .ro off (ints .u8 us) by simp only [AObj.ren, renL_ints]]
  refine Fits.ro (o0 := 0) rfl rfl (Nat.zero_le _) ?_
  rw [ho, Nat.sub_zero, List.drop_succ_cons, ints_length]
  simp only [ints] at *
  rw [← List.map_drop, ← List.map_take, hu]
theorem fits_win {o o' i : Nat} {ds us : List Int} (r : List Nat) (ho : o' = o + i) (hu : (ds.drop i).take us.length = us) : Fits (.ro o (ints .u8 ds)) (AObj.ren r (.ro o' (ints .u8 us))) := by
  rw [show AObj.ren r (.ro o' (ints .u8 us)) = .ro o' (ints .u8 us) by simp only [AObj.ren, renL_ints]]
  refine Fits.ro (o0 := o) rfl rfl (by omega) ?_
  rw [show o' - o = i by omega, ints_length]
  simp only [ints] at *
  rw [← List.map_drop, ← List.map_take, hu]

theorem goesUp_meets (n : Int) (l : List Int) (o c : Nat) (hn : 0 ≤ n) (hd : Dig l) (h0 : 2 ≤ l.length) (hc : l.length ≤ c) (hc2 : c < 1000) : Meets Tryz.prog 143 [jI n, AV.slice 0 o l.length c] [AObj.ro o (ints .u8 l)] (jB (upB n l)) [AObj.ro o (ints .u8 l)] := by
  have o1 := oA (oS (show 0 ≤ (0 : Int) from by decide)) <| oA (oS (show (0 : Int) < ((l.length : Nat) : Int) from by omega)) <| oA (oS (show AV.ptr 0 (o + Int.toNat (0 : Int) * 1) = jP 0 o from ptrE (by omega))) <| oA (oS (show o ≤ o from by omega)) <| oS (show (ints .u8 l : List AV)[o - o]? = some (jU (l.getD 0 0)) from ints_at [] (by simp only [List.length_nil, List.length_cons] <;> omega) (by omega))
  let q1 : List Orc := [rG []]
  by_cases c1 : (l.getD 0 0) = 5
  · have o2 := oA (oS (neF c1)) <| oA (oS (show (2 : Int) ≠ 0 from by decide)) <| oS (show AV.int .i64 (n.tmod 2) = jI (n % 2) from remI (by omega))
    let q2 : List Orc := [rG [hhV 1 (jP 0 o), hhV 2 (jU (l.getD 0 0)), hhB 3 false]]
    by_cases c2 : (n % 2) = 1
    · exact meets_run (fn := Tryz.f143) 0 (q1 ++ (q2 ++ [rG [hhI 1 (n % 2), hhB 2 true]])) [{}] Tryz.func143 (by kernel_rfl) Tryz.call143
        (oA o1 <| oA o2 <| oS (eqT c2))
        (oA (oS (show jB true = jB (upB n l) from up_odd hd h0 c1 c2)) <| oA (oS (show AObj.ro o (ints .u8 l) = AObj.ro o (ints .u8 l) from rfl)) <| oS (show AvoidO (fun n => decide (1 ≤ n)) (AObj.ro o (ints .u8 l)) from AvoidO.ro (AvoidL.ints _ _ _))) (by kernel_rfl)
    · exact meets_run (fn := Tryz.f143) 0 (q1 ++ (q2 ++ [rG [hhI 1 (n % 2), hhB 2 false, hhV 5 (AV.slice 0 (o + 1) (l.length - 1) (c - 1)), (6, {call := some ⟨[0], [AV.slice 0 (o + 1) ((l.drop 1).length) (c - 1)], [AObj.ro (o + 1) (ints .u8 (l.drop 1))], jB (decide (val (l.drop 1) = 0)), [AObj.ro (o + 1) (ints .u8 (l.drop 1))]⟩, obj := some [AObj.ro o (ints .u8 l)]})]])) [{}] Tryz.func143 (by kernel_rfl) Tryz.call143
        (oA o1 <| oA o2 <| oA (oS (eqF c2)) <| oA (oS (show 0 ≤ (1 : Int) from by omega)) <| oA (oS (show ((Int.toNat (1 : Int)) : Nat) ≤ l.length from by omega)) <| oA (oS (show (l.length : Nat) ≤ c from by omega)) <| oA (oS (show (c : Nat) ≤ c from by omega)) <| oA (oS (show AV.slice 0 (if c = (Int.toNat (1 : Int)) then o else o + (Int.toNat (1 : Int)) * 1) (l.length - (Int.toNat (1 : Int))) (c - (Int.toNat (1 : Int))) = AV.slice 0 (o + 1) (l.length - 1) (c - 1) from sliceE (by first | (split <;> omega) | (simp; omega) | simp) (by omega) (by omega))) <| oA (oS (show [AV.slice 0 (o + 1) (l.length - 1) (c - 1)] = renL [0] [AV.slice 0 (o + 1) ((l.drop 1).length) (c - 1)] from by simp only [renL, AV.ren, List.length_drop]; rfl)) <| oA (oS (show Meets Tryz.prog 132 [AV.slice 0 (o + 1) ((l.drop 1).length) (c - 1)] [AObj.ro (o + 1) (ints .u8 (l.drop 1))] (jB (decide (val (l.drop 1) = 0))) [AObj.ro (o + 1) (ints .u8 (l.drop 1))] from none_meets (l.drop 1) (o + 1) (c - 1) (by rw [List.length_drop]; omega) (by rw [List.length_drop]; omega) (hd.drop 1))) <| oA (oS (show Fits (AObj.ro o (ints .u8 l)) (AObj.ren [0] (AObj.ro (o + 1) (ints .u8 (l.drop 1)))) from fits_win _ rfl List.take_length)) <| oS (show updOf [0] [AObj.ro o (ints .u8 l)] [AObj.ro (o + 1) (ints .u8 (l.drop 1))] [AObj.ro (o + 1) (ints .u8 (l.drop 1))] ++ List.map (fun x => x.ren [0]) (List.drop 1 [AObj.ro (o + 1) (ints .u8 (l.drop 1))]) = [AObj.ro o (ints .u8 l)] from rfl))
        (oA (oS (show jB (!(decide (val (l.drop 1) = 0))) = jB (upB n l) from up_even hd h0 c1 c2)) <| oA (oS (show AObj.ro o (ints .u8 l) = AObj.ro o (ints .u8 l) from rfl)) <| oS (show AvoidO (fun n => decide (1 ≤ n)) (AObj.ro o (ints .u8 l)) from AvoidO.ro (AvoidL.ints _ _ _))) (by kernel_rfl)
  · exact meets_run (fn := Tryz.f143) 0 (q1 ++ [rG [hhV 1 (jP 0 o), hhV 2 (jU (l.getD 0 0)), hhB 3 true], rG [hhV 1 (jP 0 o), hhV 2 (jU (l.getD 0 0))]]) [{}] Tryz.func143 (by kernel_rfl) Tryz.call143
      (oA o1 <| oA (oS (neT c1)) <| oA (oS (show 0 ≤ (0 : Int) from by decide)) <| oA (oS (show (0 : Int) < ((l.length : Nat) : Int) from by omega)) <| oA (oS (show AV.ptr 0 (o + Int.toNat (0 : Int) * 1) = jP 0 o from ptrE (by omega))) <| oA (oS (show o ≤ o from by omega)) <| oS (show (ints .u8 l : List AV)[o - o]? = some (jU (l.getD 0 0)) from ints_at [] (by simp only [List.length_nil, List.length_cons] <;> omega) (by omega)))
      (oA (oS (show jB (decide ((l.getD 0 0) > 5)) = jB (upB n l) from up_ne hd h0 c1)) <| oA (oS (show AObj.ro o (ints .u8 l) = AObj.ro o (ints .u8 l) from rfl)) <| oS (show AvoidO (fun n => decide (1 ≤ n)) (AObj.ro o (ints .u8 l)) from AvoidO.ro (AvoidL.ints _ _ _))) (by kernel_rfl)

theorem capE_pos' {n k : Int} (e : k = n) (h : n ≤ 999999999999999) : AV.tuple [.int .i64 n, .bool true] = AV.tuple [.int .i64 (capN k), .bool (capB k)] := by subst e; exact capE_pos h
def evenN (ds : List Int) (w : Nat) : Int := if upB (val (ds.take w)) (ds.drop w) = true then val (ds.take w) + 1 else val (ds.take w)
theorem evenN_ge (ds : List Int) (w : Nat) : val (ds.take w) ≤ evenN ds w ∧ evenN ds w ≤ val (ds.take w) + 1 := by unfold evenN; split <;> omega
theorem even_up {ds : List Int} {w : Nat} (h : upB (val (ds.take w)) (ds.drop w) = true) : evenN ds w = val (ds.take w) + 1 := by simp [evenN, h]
theorem even_dn {ds : List Int} {w : Nat} (h : ¬ upB (val (ds.take w)) (ds.drop w) = true) : evenN ds w = val (ds.take w) := by simp [evenN, h]

theorem even_meets (mx : Bool) (ds : List Int) (e : Int) (w : Nat) (hl : ds.length = 88) (hd : Dig ds) (he : -10 ≤ e ∧ e ≤ 10) (hw : 48 - e = w) : Meets Tryz.prog 126 [jP 0 0, jI e] [jC ((jB mx) :: (ints .u8 ds)) 96] (jT [jI (capN (evenN ds w)), jB (capB (evenN ds w))]) [jC ((jB mx) :: (ints .u8 ds)) 96] := by
  have hge := evenN_ge ds w
  have hb := (val_bounds _ (hd.take w)).1
  let q1 : List Orc := [rG []]
  by_cases c1 : val (ds.take w) ≤ 999999999999999
  · have o1 := oA (oS (show [jP 0 0, jI e] = renL [0] [jP 0 0, jI e] from rfl)) <| oA (oS (show Meets Tryz.prog 142 [jP 0 0, jI e] [jC ((jB mx) :: (ints .u8 ds)) 96] (jT [jI (capN (val (ds.take w))), jB (capB (val (ds.take w)))]) [jC ((jB mx) :: (ints .u8 ds)) 96] from whole_meets mx ds e w hl hd (by omega) hw)) <| oA (oS (show Fits (jC ((jB mx) :: (ints .u8 ds)) 96) (AObj.ren [0] (jC ((jB mx) :: (ints .u8 ds)) 96)) from Fits.of_eq (by simp only [AObj.ren, renL, AV.ren, renL_ints, renL_u8s, renL_append]))) <| oA (oS (show AV.ren [0] (jT [jI (capN (val (ds.take w))), jB (capB (val (ds.take w)))]) = jT [jI (val (ds.take w)), jB true] from cap_pos c1)) <| oA (oS (show updOf [0] [jC ((jB mx) :: (ints .u8 ds)) 96] [jC ((jB mx) :: (ints .u8 ds)) 96] [jC ((jB mx) :: (ints .u8 ds)) 96] ++ List.map (fun x => x.ren [0]) (List.drop 1 [jC ((jB mx) :: (ints .u8 ds)) 96]) = [jC ((jB mx) :: (ints .u8 ds)) 96] from by simp [updOf, AObj.owned, AObj.ren, renL, AV.ren, renL_ints, renL_u8s, renL_append])) <| oA (oS (show AV.bool (!true) = jB false from rfl)) <| oA (oW (48 - e) ((w : Nat) : Int) (by omega)) <| oA (oS (show 0 ≤ (((w : Nat) : Int) : Int) from by omega)) <| oA (oS (show ((Int.toNat (((w : Nat) : Int))) : Nat) ≤ 88 from by omega)) <| oA (oS (show (88 : Nat) ≤ 88 from by omega)) <| oA (oS (show (88 : Nat) ≤ 88 from by omega)) <| oA (oS (show AV.slice 0 (if 88 = (Int.toNat (((w : Nat) : Int))) then 1 else 1 + (Int.toNat (((w : Nat) : Int))) * 1) (88 - (Int.toNat (((w : Nat) : Int)))) (88 - (Int.toNat (((w : Nat) : Int)))) = AV.slice 0 (w + 1) (88 - w) (88 - w) from sliceE (by first | (split <;> omega) | (simp; omega) | simp) (by omega) (by omega))) <| oA (oS (show [jI (val (ds.take w)), AV.slice 0 (w + 1) (88 - w) (88 - w)] = renL [0] [jI (val (ds.take w)), AV.slice 0 (w + 1) ((ds.drop w).length) (88 - w)] from by simp only [renL, AV.ren, List.length_drop, hl]; rfl)) <| oA (oS (show Meets Tryz.prog 143 [jI (val (ds.take w)), AV.slice 0 (w + 1) ((ds.drop w).length) (88 - w)] [AObj.ro (w + 1) (ints .u8 (ds.drop w))] (jB (upB (val (ds.take w)) (ds.drop w))) [AObj.ro (w + 1) (ints .u8 (ds.drop w))] from goesUp_meets _ (ds.drop w) (w + 1) (88 - w) (val_bounds _ (hd.take w)).1 (hd.drop w) (by rw [List.length_drop]; omega) (by rw [List.length_drop]; omega) (by omega))) <| oS (show Fits (jC ((jB mx) :: (ints .u8 ds)) 96) (AObj.ren [0] (AObj.ro (w + 1) (ints .u8 (ds.drop w)))) from fits_fig _ rfl List.take_length)
    let q2 : List Orc := [rG [(2, {call := some ⟨[0], [jP 0 0, jI e], [jC ((jB mx) :: (ints .u8 ds)) 96], jT [jI (capN (val (ds.take w))), jB (capB (val (ds.take w)))], [jC ((jB mx) :: (ints .u8 ds)) 96]⟩, val := some (jT [jI (val (ds.take w)), jB true]), obj := some [jC ((jB mx) :: (ints .u8 ds)) 96]})], rG [hhB 1 false]]
    by_cases c2 : upB (val (ds.take w)) (ds.drop w) = true
    · have o2 := oA (oS (boolT c2)) <| oA (oS (show updOf [0] [jC ((jB mx) :: (ints .u8 ds)) 96] [AObj.ro (w + 1) (ints .u8 (ds.drop w))] [AObj.ro (w + 1) (ints .u8 (ds.drop w))] ++ List.map (fun x => x.ren [0]) (List.drop 1 [AObj.ro (w + 1) (ints .u8 (ds.drop w))]) = [jC ((jB mx) :: (ints .u8 ds)) 96] from rfl)) <| oWs ((val (ds.take w)) + 1) (by omega)
      let q3 : List Orc := [rG [hhI 5 ((w : Nat) : Int), hhV 6 (AV.slice 0 (w + 1) (88 - w) (88 - w)), (7, {call := some ⟨[0], [jI (val (ds.take w)), AV.slice 0 (w + 1) ((ds.drop w).length) (88 - w)], [AObj.ro (w + 1) (ints .u8 (ds.drop w))], jB (upB (val (ds.take w)) (ds.drop w)), [AObj.ro (w + 1) (ints .u8 (ds.drop w))]⟩, val := some (jB true), obj := some [jC ((jB mx) :: (ints .u8 ds)) 96]})], rG [hhI 1 ((val (ds.take w)) + 1)]]
      by_cases c3 : ((val (ds.take w)) + 1) > 999999999999999
      · exact meets_run (fn := Tryz.f126) 0 (q1 ++ (q2 ++ (q3 ++ [rG [hhB 1 true], rG []]))) [{}, {}] Tryz.func126 (by kernel_rfl) Tryz.call126
          (oA o1 <| oA o2 <| oS (bT c3))
          (oA (oS (show jT [jI 0, jB false] = jT [jI (capN (evenN ds w)), jB (capB (evenN ds w))] from capE_neg (by first | omega | (have := even_up c2; omega)))) <| oA (oV (D := (fun n => decide (1 ≤ n))) (jT [jI (capN (evenN ds w)), jB (capB (evenN ds w))]) rfl) <| oA (oS (show jC ((jB mx) :: (ints .u8 ds)) 96 = jC ((jB mx) :: (ints .u8 ds)) 96 from rfl)) <| oS (show AvoidO (fun n => decide (1 ≤ n)) (jC ((jB mx) :: (ints .u8 ds)) 96) from AvoidO.cells (AvoidL.cons (Avoid.bool _ _) (AvoidL.ints _ _ _)))) (by kernel_rfl)
      · exact meets_run (fn := Tryz.f126) 0 (q1 ++ (q2 ++ (q3 ++ [rG [hhB 1 false], rG []]))) [{}, {}] Tryz.func126 (by kernel_rfl) Tryz.call126
          (oA o1 <| oA o2 <| oS (bF c3))
          (oA (oS (show jT [jI ((val (ds.take w)) + 1), jB true] = jT [jI (capN (evenN ds w)), jB (capB (evenN ds w))] from capE_pos' (even_up c2) (by omega))) <| oA (oV (D := (fun n => decide (1 ≤ n))) (jT [jI (capN (evenN ds w)), jB (capB (evenN ds w))]) rfl) <| oA (oS (show jC ((jB mx) :: (ints .u8 ds)) 96 = jC ((jB mx) :: (ints .u8 ds)) 96 from rfl)) <| oS (show AvoidO (fun n => decide (1 ≤ n)) (jC ((jB mx) :: (ints .u8 ds)) 96) from AvoidO.cells (AvoidL.cons (Avoid.bool _ _) (AvoidL.ints _ _ _)))) (by kernel_rfl)
    · have o2 := oA (oS (boolF c2)) <| oS (show updOf [0] [jC ((jB mx) :: (ints .u8 ds)) 96] [AObj.ro (w + 1) (ints .u8 (ds.drop w))] [AObj.ro (w + 1) (ints .u8 (ds.drop w))] ++ List.map (fun x => x.ren [0]) (List.drop 1 [AObj.ro (w + 1) (ints .u8 (ds.drop w))]) = [jC ((jB mx) :: (ints .u8 ds)) 96] from rfl)
      let q3 : List Orc := [rG [hhI 5 ((w : Nat) : Int), hhV 6 (AV.slice 0 (w + 1) (88 - w) (88 - w)), (7, {call := some ⟨[0], [jI (val (ds.take w)), AV.slice 0 (w + 1) ((ds.drop w).length) (88 - w)], [AObj.ro (w + 1) (ints .u8 (ds.drop w))], jB (upB (val (ds.take w)) (ds.drop w)), [AObj.ro (w + 1) (ints .u8 (ds.drop w))]⟩, val := some (jB false), obj := some [jC ((jB mx) :: (ints .u8 ds)) 96]})]]
      by_cases c3 : (val (ds.take w)) > 999999999999999
      · exact meets_run (fn := Tryz.f126) 0 (q1 ++ (q2 ++ (q3 ++ [rG [hhB 1 true], rG []]))) [{}, {}] Tryz.func126 (by kernel_rfl) Tryz.call126
          (oA o1 <| oA o2 <| oS (bT c3))
          (oA (oS (show jT [jI 0, jB false] = jT [jI (capN (evenN ds w)), jB (capB (evenN ds w))] from capE_neg (by first | omega | (have := even_up c2; omega)))) <| oA (oV (D := (fun n => decide (1 ≤ n))) (jT [jI (capN (evenN ds w)), jB (capB (evenN ds w))]) rfl) <| oA (oS (show jC ((jB mx) :: (ints .u8 ds)) 96 = jC ((jB mx) :: (ints .u8 ds)) 96 from rfl)) <| oS (show AvoidO (fun n => decide (1 ≤ n)) (jC ((jB mx) :: (ints .u8 ds)) 96) from AvoidO.cells (AvoidL.cons (Avoid.bool _ _) (AvoidL.ints _ _ _)))) (by kernel_rfl)
      · exact meets_run (fn := Tryz.f126) 0 (q1 ++ (q2 ++ (q3 ++ [rG [hhB 1 false], rG []]))) [{}, {}] Tryz.func126 (by kernel_rfl) Tryz.call126
          (oA o1 <| oA o2 <| oS (bF c3))
          (oA (oS (show jT [jI (val (ds.take w)), jB true] = jT [jI (capN (evenN ds w)), jB (capB (evenN ds w))] from capE_pos' (even_dn c2) (by omega))) <| oA (oV (D := (fun n => decide (1 ≤ n))) (jT [jI (capN (evenN ds w)), jB (capB (evenN ds w))]) rfl) <| oA (oS (show jC ((jB mx) :: (ints .u8 ds)) 96 = jC ((jB mx) :: (ints .u8 ds)) 96 from rfl)) <| oS (show AvoidO (fun n => decide (1 ≤ n)) (jC ((jB mx) :: (ints .u8 ds)) 96) from AvoidO.cells (AvoidL.cons (Avoid.bool _ _) (AvoidL.ints _ _ _)))) (by kernel_rfl)
  · exact meets_run (fn := Tryz.f126) 0 (q1 ++ [rG [(2, {call := some ⟨[0], [jP 0 0, jI e], [jC ((jB mx) :: (ints .u8 ds)) 96], jT [jI (capN (val (ds.take w))), jB (capB (val (ds.take w)))], [jC ((jB mx) :: (ints .u8 ds)) 96]⟩, val := some (jT [jI 0, jB false]), obj := some [jC ((jB mx) :: (ints .u8 ds)) 96]})], rG [hhB 1 true], rG []]) [{}, {}] Tryz.func126 (by kernel_rfl) Tryz.call126
      (oA (oS (show [jP 0 0, jI e] = renL [0] [jP 0 0, jI e] from rfl)) <| oA (oS (show Meets Tryz.prog 142 [jP 0 0, jI e] [jC ((jB mx) :: (ints .u8 ds)) 96] (jT [jI (capN (val (ds.take w))), jB (capB (val (ds.take w)))]) [jC ((jB mx) :: (ints .u8 ds)) 96] from whole_meets mx ds e w hl hd (by omega) hw)) <| oA (oS (show Fits (jC ((jB mx) :: (ints .u8 ds)) 96) (AObj.ren [0] (jC ((jB mx) :: (ints .u8 ds)) 96)) from Fits.of_eq (by simp only [AObj.ren, renL, AV.ren, renL_ints, renL_u8s, renL_append]))) <| oA (oS (show AV.ren [0] (jT [jI (capN (val (ds.take w))), jB (capB (val (ds.take w)))]) = jT [jI 0, jB false] from cap_neg c1)) <| oA (oS (show updOf [0] [jC ((jB mx) :: (ints .u8 ds)) 96] [jC ((jB mx) :: (ints .u8 ds)) 96] [jC ((jB mx) :: (ints .u8 ds)) 96] ++ List.map (fun x => x.ren [0]) (List.drop 1 [jC ((jB mx) :: (ints .u8 ds)) 96]) = [jC ((jB mx) :: (ints .u8 ds)) 96] from by simp [updOf, AObj.owned, AObj.ren, renL, AV.ren, renL_ints, renL_u8s, renL_append])) <| oS (show AV.bool (!false) = jB true from rfl))
      (oA (oS (show jT [jI 0, jB false] = jT [jI (capN (evenN ds w)), jB (capB (evenN ds w))] from capE_neg (by first | omega | (have := even_up c2; omega)))) <| oA (oV (D := (fun n => decide (1 ≤ n))) (jT [jI (capN (evenN ds w)), jB (capB (evenN ds w))]) rfl) <| oA (oS (show jC ((jB mx) :: (ints .u8 ds)) 96 = jC ((jB mx) :: (ints .u8 ds)) 96 from rfl)) <| oS (show AvoidO (fun n => decide (1 ≤ n)) (jC ((jB mx) :: (ints .u8 ds)) 96) from AvoidO.cells (AvoidL.cons (Avoid.bool _ _) (AvoidL.ints _ _ _)))) (by kernel_rfl)

end Go.Proofs.YtdomenmfkbfakaaGreatDoor.Dq


set_option linter.unusedVariables false
set_option linter.unusedSimpArgs false
set_option maxRecDepth 20000
namespace Go.Proofs.YtdomenmfkbfakaaGreatDoor.Dq
open Go Sx Dc

/-- The nearest decimal: the first place at which what is rounded has not too many digits. -/
def nearGo (ds : List Int) : Nat → Nat → Option (Int × Int)
  | 0, _ => none
  | f + 1, j => if evenN ds (57 - j) ≤ 999999999999999 then some (evenN ds (57 - j), (j : Int) - 9) else nearGo ds f (j + 1)
def nearM (mx : Bool) (ds : List Int) : Int × Int :=
  match nearGo ds 19 0 with
  | none => (0, 0)
  | some (n, e) => trimmedS (if mx = true then -n else n) e
def nearE (ds : List Int) : Int := if (nearGo ds 19 0).isNone then 10 else 0

def near_inv (mx : Bool) (ds : List Int) (e : Int) : AState :=
  ⟨([none, sP 0 0, sP 1 0, sI 0, sI e] ++ nn 21), [some (jC ((jB mx) :: (ints .u8 ds)) 96), some (jC [jI 0, jI 0] 23)]⟩

theorem near_round (mx : Bool) (ds : List Int) (e : Int) (w : Nat) (hl : ds.length = 88) (hd : Dig ds) (hw : 48 - e = w) (he : -9 ≤ e ∧ e ≤ 9) (h : ¬ evenN ds w ≤ 999999999999999) : Tri Tryz.prog (loopN (bodyOf Tryz.f96) 0) (near_inv mx ds e) .normal (near_inv mx ds (e + 1)) := by
  exact tri_weak [rG [hhB 1 true], rG [(1, {call := some ⟨[0], [jP 0 0, jI e], [jC ((jB mx) :: (ints .u8 ds)) 96], jT [jI (capN (evenN ds w)), jB (capB (evenN ds w))], [jC ((jB mx) :: (ints .u8 ds)) 96]⟩, val := some (jT [jI 0, jB false]), obj := some [jC ((jB mx) :: (ints .u8 ds)) 96]})], rG [hhB 1 true], rG [hhI 1 (e + 1)]]
    (oA (oS (show AV.bool (decide (e ≤ 9)) = jB true from bT (by omega))) <| oA (oS (show [jP 0 0, jI e] = renL [0] [jP 0 0, jI e] from rfl)) <| oA (oS (show Meets Tryz.prog 126 [jP 0 0, jI e] [jC ((jB mx) :: (ints .u8 ds)) 96] (jT [jI (capN (evenN ds w)), jB (capB (evenN ds w))]) [jC ((jB mx) :: (ints .u8 ds)) 96] from even_meets mx ds e w hl hd (by omega) hw)) <| oA (oS (show Fits (jC ((jB mx) :: (ints .u8 ds)) 96) (AObj.ren [0] (jC ((jB mx) :: (ints .u8 ds)) 96)) from Fits.of_eq (by simp only [AObj.ren, renL, AV.ren, renL_ints, renL_u8s, renL_append]))) <| oA (oS (show AV.ren [0] (jT [jI (capN (evenN ds w)), jB (capB (evenN ds w))]) = jT [jI 0, jB false] from cap_neg h)) <| oA (oS (show updOf [0] [jC ((jB mx) :: (ints .u8 ds)) 96] [jC ((jB mx) :: (ints .u8 ds)) 96] [jC ((jB mx) :: (ints .u8 ds)) 96] ++ List.map (fun x => x.ren [0]) (List.drop 1 [jC ((jB mx) :: (ints .u8 ds)) 96]) = [jC ((jB mx) :: (ints .u8 ds)) 96] from by simp [updOf, AObj.owned, AObj.ren, renL, AV.ren, renL_ints, renL_u8s, renL_append])) <| oA (oS (show AV.bool (!false) = jB true from rfl)) <| oWs (e + 1) (by omega))
    (oA (oR [jP 0 0, jP 1 0, jI 0, jI (e + 1)]) <| oQ [jC ((jB mx) :: (ints .u8 ds)) 96, jC [jI 0, jI 0] 23]) (by kernel_rfl)

def near_found (mx : Bool) (ds : List Int) (m e : Int) : AState :=
  ⟨([none, none, sP 1 0, sI 0] ++ nn 22), [some (jC ((jB mx) :: (ints .u8 ds)) 96), some (jC [jI m, jI e] 23)]⟩

theorem near_got (mx : Bool) (ds : List Int) (e : Int) (w : Nat) (hl : ds.length = 88) (hd : Dig ds) (hw : 48 - e = w) (he : -9 ≤ e ∧ e ≤ 9) (h : evenN ds w ≤ 999999999999999) : Tri Tryz.prog (loopN (bodyOf Tryz.f96) 0) (near_inv mx ds e) .ret (near_found mx ds (trimmedS (if mx = true then -evenN ds w else evenN ds w) e).1 (trimmedS (if mx = true then -evenN ds w else evenN ds w) e).2) := by
  have hge := evenN_ge ds w
  have hb := (val_bounds _ (hd.take w)).1
  have o1 := oA (oS (show AV.bool (decide (e ≤ 9)) = jB true from bT (by omega))) <| oA (oS (show [jP 0 0, jI e] = renL [0] [jP 0 0, jI e] from rfl)) <| oA (oS (show Meets Tryz.prog 126 [jP 0 0, jI e] [jC ((jB mx) :: (ints .u8 ds)) 96] (jT [jI (capN (evenN ds w)), jB (capB (evenN ds w))]) [jC ((jB mx) :: (ints .u8 ds)) 96] from even_meets mx ds e w hl hd (by omega) hw)) <| oA (oS (show Fits (jC ((jB mx) :: (ints .u8 ds)) 96) (AObj.ren [0] (jC ((jB mx) :: (ints .u8 ds)) 96)) from Fits.of_eq (by simp only [AObj.ren, renL, AV.ren, renL_ints, renL_u8s, renL_append]))) <| oA (oS (show AV.ren [0] (jT [jI (capN (evenN ds w)), jB (capB (evenN ds w))]) = jT [jI (evenN ds w), jB true] from cap_pos h)) <| oA (oS (show updOf [0] [jC ((jB mx) :: (ints .u8 ds)) 96] [jC ((jB mx) :: (ints .u8 ds)) 96] [jC ((jB mx) :: (ints .u8 ds)) 96] ++ List.map (fun x => x.ren [0]) (List.drop 1 [jC ((jB mx) :: (ints .u8 ds)) 96]) = [jC ((jB mx) :: (ints .u8 ds)) 96] from by simp [updOf, AObj.owned, AObj.ren, renL, AV.ren, renL_ints, renL_u8s, renL_append])) <| oS (show AV.bool (!true) = jB false from rfl)
  let q1 : List Orc := [rG [hhB 1 true], rG [(1, {call := some ⟨[0], [jP 0 0, jI e], [jC ((jB mx) :: (ints .u8 ds)) 96], jT [jI (capN (evenN ds w)), jB (capB (evenN ds w))], [jC ((jB mx) :: (ints .u8 ds)) 96]⟩, val := some (jT [jI (evenN ds w), jB true]), obj := some [jC ((jB mx) :: (ints .u8 ds)) 96]})], rG [hhB 1 false]]
  by_cases c3 : mx = true
  · exact tri_weak (q1 ++ [rG [hhB 1 true], rG [hhI 1 (-(evenN ds w))], rG [hhM 2 (trimmed_meets (-(evenN ds w)) e (by omega) (by omega)), (3, {obj := some [jC [jI ((trimmedS (-(evenN ds w)) e).1), jI ((trimmedS (-(evenN ds w)) e).2)] 23]})]])
      (oA o1 <| oA (oLf ((jB mx) :: (ints .u8 ds)) (0) (jB true) (atT (rfl) c3)) <| oA (oW (0 - (evenN ds w)) (-(evenN ds w)) (by omega)) <| oA (oC (trimmed_meets (-(evenN ds w)) e (by omega) (by omega)) rfl) <| oSw ([jI ((trimmedS (-(evenN ds w)) e).1), jI ((trimmedS (-(evenN ds w)) e).2)]) ([jI 0, jI 0]) 23 (rfl) (rfl))
      (oA (oR [jP 1 0, jI 0]) <| oA (oQ [jC ((jB mx) :: (ints .u8 ds)) 96]) <| oS (show jC [jI ((trimmedS (-(evenN ds w)) e).1), jI ((trimmedS (-(evenN ds w)) e).2)] 23 = jC [jI ((trimmedS (if mx = true then -evenN ds w else evenN ds w) e).1), jI ((trimmedS (if mx = true then -evenN ds w else evenN ds w) e).2)] 23 from by simp only [*, if_true, if_false, Bool.false_eq_true])) (by kernel_rfl)
  · exact tri_weak (q1 ++ [rG [hhB 1 false], rG [hhM 2 (trimmed_meets (evenN ds w) e (by omega) (by omega)), (3, {obj := some [jC [jI ((trimmedS (evenN ds w) e).1), jI ((trimmedS (evenN ds w) e).2)] 23]})]])
      (oA o1 <| oA (oLf ((jB mx) :: (ints .u8 ds)) (0) (jB false) (atF (rfl) c3)) <| oA (oC (trimmed_meets (evenN ds w) e (by omega) (by omega)) rfl) <| oSw ([jI ((trimmedS (evenN ds w) e).1), jI ((trimmedS (evenN ds w) e).2)]) ([jI 0, jI 0]) 23 (rfl) (rfl))
      (oA (oR [jP 1 0, jI 0]) <| oA (oQ [jC ((jB mx) :: (ints .u8 ds)) 96]) <| oS (show jC [jI ((trimmedS (evenN ds w) e).1), jI ((trimmedS (evenN ds w) e).2)] 23 = jC [jI ((trimmedS (if mx = true then -evenN ds w else evenN ds w) e).1), jI ((trimmedS (if mx = true then -evenN ds w else evenN ds w) e).2)] 23 from by simp only [*, if_true, if_false, Bool.false_eq_true])) (by kernel_rfl)

def near_lost (mx : Bool) (ds : List Int) : AState :=
  ⟨([none, none, sP 1 0] ++ nn 23), [some (jC ((jB mx) :: (ints .u8 ds)) 96), some (jC [jI 0, jI 0] 23)]⟩

theorem near_last (mx : Bool) (ds : List Int) (e : Int) (he : ¬ e ≤ 9) : Tri Tryz.prog (loopN (bodyOf Tryz.f96) 0) (near_inv mx ds e) (.exit 0) (near_lost mx ds) := by
  exact tri_weak [rG [hhB 1 false]]
    (oS (show AV.bool (decide (e ≤ 9)) = jB false from bF he))
    (oA (oR [jP 1 0]) <| oQ [jC ((jB mx) :: (ints .u8 ds)) 96, jC [jI 0, jI 0] 23]) (by kernel_rfl)

theorem near_loop_none (mx : Bool) (ds : List Int) (hl : ds.length = 88) (hd : Dig ds) (h : nearGo ds 19 0 = none) : Tri Tryz.prog (.loop (loopN (bodyOf Tryz.f96) 0)) (near_inv mx ds (-9)) (.exit 0) (near_lost mx ds) :=
  tri_loop (ι := {q : Nat × Nat // q.1 + q.2 = 19 ∧ nearGo ds q.1 q.2 = none}) (fun i => near_inv mx ds ((i.1.2 : Int) - 9)) (fun i => i.1.1) (ne_normal_exit 0) (by
    rintro ⟨⟨n, j⟩, hj, h⟩
    simp only at hj h
    cases n with
    | zero => exact .inr (near_last mx ds _ (by simp only; omega))
    | succ n =>
      rw [nearGo] at h
      split at h
      · cases h
      · rename_i hc
        refine .inl ⟨⟨(n, j + 1), by simp only; omega, h⟩, Nat.lt_succ_self n, ?_⟩
        have := near_round mx ds ((j : Int) - 9) (57 - j) hl hd (by omega) (by omega) hc
        rwa [show (j : Int) - 9 + 1 = ((j + 1 : Nat) : Int) - 9 by omega] at this) ⟨(19, 0), rfl, h⟩
theorem near_loop_some (mx : Bool) (ds : List Int) (hl : ds.length = 88) (hd : Dig ds) (N e : Int) (h : nearGo ds 19 0 = some (N, e)) : Tri Tryz.prog (.loop (loopN (bodyOf Tryz.f96) 0)) (near_inv mx ds (-9)) .ret (near_found mx ds (trimmedS (if mx = true then -N else N) e).1 (trimmedS (if mx = true then -N else N) e).2) :=
  tri_loop (ι := {q : Nat × Nat // q.1 + q.2 = 19 ∧ nearGo ds q.1 q.2 = some (N, e)}) (fun i => near_inv mx ds ((i.1.2 : Int) - 9)) (fun i => i.1.1) ne_normal_ret (by
    rintro ⟨⟨n, j⟩, hj, h⟩
    simp only at hj h
    cases n with
    | zero => cases h
    | succ n =>
      rw [nearGo] at h
      split at h
      · rename_i hc
        simp only [Option.some.injEq, Prod.mk.injEq] at h
        obtain ⟨rfl, rfl⟩ := h
        exact .inr (near_got mx ds ((j : Int) - 9) (57 - j) hl hd (by omega) (by omega) hc)
      · rename_i hc
        refine .inl ⟨⟨(n, j + 1), by simp only; omega, h⟩, Nat.lt_succ_self n, ?_⟩
        have := near_round mx ds ((j : Int) - 9) (57 - j) hl hd (by omega) (by omega) hc
        rwa [show (j : Int) - 9 + 1 = ((j + 1 : Nat) : Int) - 9 by omega] at this) ⟨(19, 0), rfl, h⟩
theorem nearE_none {ds : List Int} {mx : Bool} (h : nearGo ds 19 0 = none) : AV.tuple [AV.agg [AV.int .i64 0, AV.int .i64 0], AV.int .i64 10] = AV.tuple [AV.agg [AV.int .i64 (nearM mx ds).1, AV.int .i64 (nearM mx ds).2], AV.int .i64 (nearE ds)] := by simp [nearM, nearE, h]
theorem nearE_some {ds : List Int} {mx : Bool} {N e : Int} (h : nearGo ds 19 0 = some (N, e)) : AV.tuple [AV.agg [AV.int .i64 (trimmedS (if mx = true then -N else N) e).1, AV.int .i64 (trimmedS (if mx = true then -N else N) e).2], AV.int .i64 0] = AV.tuple [AV.agg [AV.int .i64 (nearM mx ds).1, AV.int .i64 (nearM mx ds).2], AV.int .i64 (nearE ds)] := by simp [nearM, nearE, h]

theorem nearest_none (mx : Bool) (ds : List Int) (hl : ds.length = 88) (hd : Dig ds) (h : nearGo ds 19 0 = none) : Meets Tryz.prog 96 [jA ((jB mx) :: (ints .u8 ds))] [] (jT [jA [jI ((nearM mx ds).1), jI ((nearM mx ds).2)], jI (nearE ds)]) [] := by
  exact meets_run (fn := Tryz.f96) 2 [rG [hhN 0 0, hhN 1 1], rG [], .loop (⟨([none, sP 0 0, sP 1 0, sI 0, sI (-9)] ++ nn 21), [some (jC ((jB mx) :: (ints .u8 ds)) 96), some (jC [jI 0, jI 0] 23)]⟩) (.exit 0) (⟨([none, none, sP 1 0] ++ nn 23), [some (jC ((jB mx) :: (ints .u8 ds)) 96), some (jC [jI 0, jI 0] 23)]⟩), rG [(1, {obj := some [jC [jI 0, jI 0] 23]})]] [{val := some (jA [jI 0, jI 0])}, {}] Tryz.func96 (by kernel_rfl) Tryz.call96
    (oA (oR [jP 0 0, jP 1 0, jI 0, jI (-9)]) <| oA (oQ [jC ((jB mx) :: (ints .u8 ds)) 96, jC [jI 0, jI 0] 23]) <| oA (oS (show Tri Tryz.prog (.loop (loopN (bodyOf Tryz.f96) 0)) (⟨([none, sP 0 0, sP 1 0, sI 0, sI (-9)] ++ nn 21), [some (jC ((jB mx) :: (ints .u8 ds)) 96), some (jC [jI 0, jI 0] 23)]⟩) (.exit 0) (⟨([none, none, sP 1 0] ++ nn 23), [some (jC ((jB mx) :: (ints .u8 ds)) 96), some (jC [jI 0, jI 0] 23)]⟩) from near_loop_none mx ds hl hd h)) <| oSw ([jI 0, jI 0]) ([jI 0, jI 0]) 23 (rfl) (rfl))
    (oA (oLw ([jI 0, jI 0]) (rfl)) <| oA (oS (show jT [jA [jI 0, jI 0], jI 10] = jT [jA [jI ((nearM mx ds).1), jI ((nearM mx ds).2)], jI (nearE ds)] from nearE_none h)) <| oV (D := (fun n => decide (0 ≤ n))) (jT [jA [jI ((nearM mx ds).1), jI ((nearM mx ds).2)], jI (nearE ds)]) rfl) (by kernel_rfl)

theorem nearest_some (mx : Bool) (ds : List Int) (N e : Int) (hl : ds.length = 88) (hd : Dig ds) (h : nearGo ds 19 0 = some (N, e)) : Meets Tryz.prog 96 [jA ((jB mx) :: (ints .u8 ds))] [] (jT [jA [jI ((nearM mx ds).1), jI ((nearM mx ds).2)], jI (nearE ds)]) [] := by
  exact meets_run (fn := Tryz.f96) 2 [rG [hhN 0 0, hhN 1 1], rG [], .loop (⟨([none, sP 0 0, sP 1 0, sI 0, sI (-9)] ++ nn 21), [some (jC ((jB mx) :: (ints .u8 ds)) 96), some (jC [jI 0, jI 0] 23)]⟩) .ret (⟨([none, none, sP 1 0, sI 0] ++ nn 22), [some (jC ((jB mx) :: (ints .u8 ds)) 96), some (jC [jI ((trimmedS (if mx = true then -N else N) e).1), jI ((trimmedS (if mx = true then -N else N) e).2)] 23)]⟩)] [{val := some (jA [jI ((trimmedS (if mx = true then -N else N) e).1), jI ((trimmedS (if mx = true then -N else N) e).2)])}, {}] Tryz.func96 (by kernel_rfl) Tryz.call96
    (oA (oR [jP 0 0, jP 1 0, jI 0, jI (-9)]) <| oA (oQ [jC ((jB mx) :: (ints .u8 ds)) 96, jC [jI 0, jI 0] 23]) <| oS (show Tri Tryz.prog (.loop (loopN (bodyOf Tryz.f96) 0)) (⟨([none, sP 0 0, sP 1 0, sI 0, sI (-9)] ++ nn 21), [some (jC ((jB mx) :: (ints .u8 ds)) 96), some (jC [jI 0, jI 0] 23)]⟩) .ret (⟨([none, none, sP 1 0, sI 0] ++ nn 22), [some (jC ((jB mx) :: (ints .u8 ds)) 96), some (jC [jI ((trimmedS (if mx = true then -N else N) e).1), jI ((trimmedS (if mx = true then -N else N) e).2)] 23)]⟩) from near_loop_some mx ds hl hd N e h))
    (oA (oLw ([jI ((trimmedS (if mx = true then -N else N) e).1), jI ((trimmedS (if mx = true then -N else N) e).2)]) (rfl)) <| oA (oS (show jT [jA [jI ((trimmedS (if mx = true then -N else N) e).1), jI ((trimmedS (if mx = true then -N else N) e).2)], jI 0] = jT [jA [jI ((nearM mx ds).1), jI ((nearM mx ds).2)], jI (nearE ds)] from nearE_some h)) <| oV (D := (fun n => decide (0 ≤ n))) (jT [jA [jI ((nearM mx ds).1), jI ((nearM mx ds).2)], jI (nearE ds)]) rfl) (by kernel_rfl)

theorem nearest_meets (mx : Bool) (ds : List Int) (hl : ds.length = 88) (hd : Dig ds) : Meets Tryz.prog 96 [AV.agg (AV.bool mx :: ints .u8 ds)] [] (jT [jA [jI ((nearM mx ds).1), jI ((nearM mx ds).2)], jI (nearE ds)]) [] := by
  cases h : nearGo ds 19 0 with
  | none => exact nearest_none mx ds hl hd h
  | some p => exact nearest_some mx ds p.1 p.2 hl hd h

end Go.Proofs.YtdomenmfkbfakaaGreatDoor.Dq

/- What texts say of decimals: plain mathematics. -/
set_option linter.unusedVariables false
set_option linter.unusedSimpArgs false
namespace Go.Proofs.YtdomenmfkbfakaaGreatDoor.Dq
open Go Dc

def idx46 (s : List UInt8) : Int := Lib.indexByte s 46
theorem idx46_ge (s : List UInt8) : -1 ≤ idx46 s := Lib.indexByte_ge s 46
theorem idx46_lt : ∀ (s : List UInt8), idx46 s < s.length
  | [] => by simp [idx46, Lib.indexByte]
  | b :: s => by
    have ih := idx46_lt s
    have hg := idx46_ge s
    unfold idx46 at *
    rw [Lib.indexByte, List.length_cons]
    split
    · omega
    · split <;> omega
/-- Is there a minus ahead? -/
def minusB (s : List UInt8) : Bool := decide (s.head? = some 45)
def okDig (b : UInt8) : Prop := 48 ≤ b.toNat ∧ b.toNat ≤ 57
instance : DecidablePred okDig := fun b => inferInstanceAs (Decidable (48 ≤ b.toNat ∧ b.toNat ≤ 57))
def isDigs (s : List UInt8) : Bool := decide (s ≠ [] ∧ s.length ≤ 40 ∧ ∀ b ∈ s, okDig b)
def bytesD (s : List UInt8) : List Int := s.map fun b => (b.toNat : Int) - 48
def bodyS (s : List UInt8) : List UInt8 := if minusB s = true then s.drop 1 else s
def wholeS (b : List UInt8) : List UInt8 := if 0 ≤ idx46 b then b.take (idx46 b).toNat else b
def partS (b : List UInt8) : List UInt8 := if 0 ≤ idx46 b then b.drop ((idx46 b).toNat + 1) else []
theorem bytesD_length (s : List UInt8) : (bytesD s).length = s.length := by simp [bytesD]
theorem bytesD_dig {s : List UInt8} (h : ∀ b ∈ s, okDig b) : Dig (bytesD s) := by
  intro d hd
  obtain ⟨b, hb, rfl⟩ := List.mem_map.1 hd
  have := h b hb
  unfold okDig at this; omega
/-- The number that a text is, times ten to 40, without its sign. -/
def wrV (w p : List UInt8) : Int := val (bytesD w) * 10 ^ 40 + val (bytesD p) * 10 ^ (40 - p.length)
def okW (s : List UInt8) : Bool := isDigs (wholeS (bodyS s)) && (!decide (0 ≤ idx46 (bodyS s)) || isDigs (partS (bodyS s)))
def wrS (s : List UInt8) : Int := wrV (wholeS (bodyS s)) (partS (bodyS s))
end Go.Proofs.YtdomenmfkbfakaaGreatDoor.Dq


set_option linter.unusedVariables false
set_option linter.unusedSimpArgs false
set_option maxRecDepth 20000
namespace Go.Proofs.YtdomenmfkbfakaaGreatDoor.Dq
open Go Sx Dc

theorem meets_indexByteString {P : Program} {f : FuncId} {fn : Func} (hf : P.funcs[f]? = some fn) (h1 : (fn.name == "runtime.NumGoroutine") = false) (h2 : fn.body.isNone = true) (h3 : Extern.findNext fn = none) (h4 : Extern.find fn = some Extern.BytealgIndexByte.indexByte) (s : List UInt8) (c : Int) (hfy : f ≠ yF := by decide) :
    Meets P f [.str s, .int .u8 c] [] (.int .i64 (Lib.indexByte s c.toNat.toUInt8)) [] := by
  intro w E vs hvs hp
  simp only [denL, den, Option.some.injEq] at hvs
  subst hvs
  refine Does.of hfy (.inr ⟨_, w, ?_, E, _, rfl, rfl, PostR.same hp⟩)
  rw [run_callFunc_extern hf h1 h2 h3 (e := Extern.BytealgIndexByte.indexByte) h4]
  have := Lib.run_indexByteString (P := P) ⟨s.toArray⟩ c w
  simp only [this]
  rfl
theorem idx_one {s : List UInt8} (h : [46] = s) : AV.int .i64 0 = AV.int .i64 (idx46 s) := by subst h; rfl
theorem has_short {s : List UInt8} (c : ¬ ((s.length : Nat) : Int) ≥ 1) : AV.bool false = AV.bool (minusB s) := by
  cases s with
  | nil => rfl
  | cons a s => simp at c; omega
theorem has_long {s : List UInt8} (c : ((s.length : Nat) : Int) ≥ 1) : AV.bool ((List.drop 0 s).take (1 - 0) == [45]) = AV.bool (minusB s) := by
  cases s with
  | nil => simp at c
  | cons a s => simp [minusB]; rw [Bool.eq_iff_iff]; simp
theorem minus_pos {s : List UInt8} (h : minusB s = true) : 1 ≤ s.length := by
  cases s with
  | nil => simp [minusB] at h
  | cons a s => simp

theorem indexByte_meets (s : List UInt8) : Meets Tryz.prog 156 [jS s, jU 46] [] (jI (idx46 s)) [] := by
  exact meets_run (fn := Tryz.f156) 0 [rG [], rG [(2, {call := some ⟨[], [jS s, jU 46], [], jI (Lib.indexByte s (Int.toNat 46).toUInt8), []⟩, val := some (jI (idx46 s))})]] [{}] Tryz.func156 (by kernel_rfl) Tryz.call156
    (oA (oC (show Meets Tryz.prog 165 [jS s, jU 46] [] (jI (Lib.indexByte s (Int.toNat 46).toUInt8)) [] from meets_indexByteString (fn := Tryz.f165) Tryz.func165 (by kernel_rfl) (by kernel_rfl) (by kernel_rfl) (by kernel_rfl) s 46) rfl) <| oS (show AV.ren [] (jI (Lib.indexByte s (Int.toNat 46).toUInt8)) = jI (idx46 s) from rfl))
    (oS (@rfl _ (jI (idx46 s)))) (by kernel_rfl)

theorem index_meets (s : List UInt8) : Meets Tryz.prog 149 [jS s, jS [46]] [] (jI (idx46 s)) [] := by
  have o1 := oA (oS (show AV.int .i64 (List.length ([46] : List UInt8)) = jI 1 from rfl)) <| oS (show AV.bool ((1 : Int) == 0) = jB false from boolE (by decide))
  let q1 : List Orc := [rG [], rG [hhI 1 1]]
  by_cases c1 : [46] = s
  · exact meets_run (fn := Tryz.f149) 0 (q1 ++ [rG [hhB 1 false, hhB 5 true], rG []]) [{}] Tryz.func149 (by kernel_rfl) Tryz.call149
      (oA o1 <| oS (eqT c1))
      (oS (show jI 0 = jI (idx46 s) from idx_one c1)) (by kernel_rfl)
  · exact meets_run (fn := Tryz.f149) 0 (q1 ++ [rG [hhB 1 false, hhB 5 false], rG [hhB 1 true], rG [hhV 2 (jU 46), hhM 3 (indexByte_meets s)]]) [{}] Tryz.func149 (by kernel_rfl) Tryz.call149
      (oA o1 <| oA (oS (eqF c1)) <| oA (oS (show AV.bool ((1 : Int) == 1) = jB true from boolE (by decide))) <| oA (oS (show 0 ≤ (0 : Int) from by decide)) <| oA (oS (show Option.map (fun c : UInt8 => (c.toNat : Int)) ([46])[Int.toNat (0 : Int)]? = some 46 from rfl)) <| oC (indexByte_meets s) rfl)
      (oS (@rfl _ (jI (idx46 s)))) (by kernel_rfl)

theorem cut0_meets (s : List UInt8) (hs : s.length < 1000000) : Meets Tryz.prog 141 [jS s, jS [46]] [] (jT [jS (if 0 ≤ idx46 s then s.take (idx46 s).toNat else s), jS (if 0 ≤ idx46 s then s.drop ((idx46 s).toNat + 1) else []), jB (decide (0 ≤ idx46 s))]) [] := by
  have hg := idx46_ge s
  have hlt := idx46_lt s
  let q1 : List Orc := [rG [], rG [hhM 2 (index_meets s)]]
  by_cases c1 : (idx46 s) ≥ 0
  · exact meets_run (fn := Tryz.f141) 0 (q1 ++ [rG [hhB 1 true], rG [hhV 2 (jS (s.take (idx46 s).toNat)), hhI 6 1, hhI 7 ((idx46 s) + 1), hhV 8 (jS (s.drop ((idx46 s).toNat + 1)))]]) [{}, {}, {}] Tryz.func141 (by kernel_rfl) Tryz.call141
      (oA (oC (index_meets s) rfl) <| oA (oS (bT c1)) <| oA (oS (show 0 ≤ ((idx46 s) : Int) from by omega)) <| oA (oS (show (0 : Nat) ≤ (Int.toNat ((idx46 s))) from by omega)) <| oA (oS (show ((Int.toNat ((idx46 s))) : Nat) ≤ s.length from by omega)) <| oA (oS (show (s.length : Nat) ≤ s.length from by omega)) <| oA (oS (show AV.str (List.take ((Int.toNat ((idx46 s))) - 0) (List.drop 0 s)) = jS (s.take (idx46 s).toNat) from strE (by simp))) <| oA (oS (show AV.int .i64 (List.length ([46] : List UInt8)) = jI 1 from rfl)) <| oA (oWs ((idx46 s) + 1) (by omega)) <| oA (oS (show 0 ≤ (((idx46 s) + 1) : Int) from by omega)) <| oA (oS (show ((Int.toNat (((idx46 s) + 1))) : Nat) ≤ s.length from by omega)) <| oA (oS (show (s.length : Nat) ≤ s.length from by omega)) <| oA (oS (show (s.length : Nat) ≤ s.length from by omega)) <| oS (show AV.str (List.take (s.length - (Int.toNat (((idx46 s) + 1)))) (List.drop (Int.toNat (((idx46 s) + 1))) s)) = jS (s.drop ((idx46 s).toNat + 1)) from strE (by rw [List.take_of_length_le (by simp <;> omega)]; congr 1; omega)))
      (oA (oS (show jT [jS (s.take (idx46 s).toNat), jS (s.drop ((idx46 s).toNat + 1)), jB true] = jT [jS (if 0 ≤ idx46 s then s.take (idx46 s).toNat else s), jS (if 0 ≤ idx46 s then s.drop ((idx46 s).toNat + 1) else []), jB (decide (0 ≤ idx46 s))] from by simp [*])) <| oV (D := (fun n => decide (0 ≤ n))) (jT [jS (if 0 ≤ idx46 s then s.take (idx46 s).toNat else s), jS (if 0 ≤ idx46 s then s.drop ((idx46 s).toNat + 1) else []), jB (decide (0 ≤ idx46 s))]) rfl) (by kernel_rfl)
  · exact meets_run (fn := Tryz.f141) 0 (q1 ++ [rG [hhB 1 false], rG []]) [{}, {}, {}] Tryz.func141 (by kernel_rfl) Tryz.call141
      (oA (oC (index_meets s) rfl) <| oS (bF c1))
      (oA (oS (show jT [jS s, jS [], jB false] = jT [jS (if 0 ≤ idx46 s then s.take (idx46 s).toNat else s), jS (if 0 ≤ idx46 s then s.drop ((idx46 s).toNat + 1) else []), jB (decide (0 ≤ idx46 s))] from by simp [*])) <| oV (D := (fun n => decide (0 ≤ n))) (jT [jS (if 0 ≤ idx46 s then s.take (idx46 s).toNat else s), jS (if 0 ≤ idx46 s then s.drop ((idx46 s).toNat + 1) else []), jB (decide (0 ≤ idx46 s))]) rfl) (by kernel_rfl)

theorem cut_meets (s : List UInt8) (hs : s.length < 1000000) : Meets Tryz.prog 124 [jS s, jS [46]] [] (jT [jS (if 0 ≤ idx46 s then s.take (idx46 s).toNat else s), jS (if 0 ≤ idx46 s then s.drop ((idx46 s).toNat + 1) else []), jB (decide (0 ≤ idx46 s))]) [] := by
  exact meets_run (fn := Tryz.f124) 0 [rG [], rG [hhM 2 (cut0_meets s hs)]] [{}, {}, {}] Tryz.func124 (by kernel_rfl) Tryz.call124
    (oC (cut0_meets s hs) rfl)
    (oA (oS (@rfl _ (jT [jS (if 0 ≤ idx46 s then s.take (idx46 s).toNat else s), jS (if 0 ≤ idx46 s then s.drop ((idx46 s).toNat + 1) else []), jB (decide (0 ≤ idx46 s))]))) <| oV (D := (fun n => decide (0 ≤ n))) (jT [jS (if 0 ≤ idx46 s then s.take (idx46 s).toNat else s), jS (if 0 ≤ idx46 s then s.drop ((idx46 s).toNat + 1) else []), jB (decide (0 ≤ idx46 s))]) rfl) (by kernel_rfl)

theorem hasPrefix_meets (s : List UInt8) : Meets Tryz.prog 94 [jS s, jS [45]] [] (jB (minusB s)) [] := by
  let q1 : List Orc := [rG []]
  by_cases c1 : ((s.length : Nat) : Int) ≥ 1
  · exact meets_run (fn := Tryz.f94) 0 (q1 ++ [rG [hhI 3 1, hhB 4 true, hhI 8 1, hhV 9 (jS ((List.drop 0 s).take (1 - 0)))]]) [{}] Tryz.func94 (by kernel_rfl) Tryz.call94
      (oA (oS (show AV.int .i64 (List.length ([45] : List UInt8)) = jI 1 from rfl)) <| oA (oS (bT c1)) <| oA (oS (show AV.int .i64 (List.length ([45] : List UInt8)) = jI 1 from rfl)) <| oA (oS (show 0 ≤ (1 : Int) from by omega)) <| oA (oS (show (0 : Nat) ≤ (Int.toNat (1 : Int)) from by omega)) <| oA (oS (show ((Int.toNat (1 : Int)) : Nat) ≤ s.length from by omega)) <| oA (oS (show (s.length : Nat) ≤ s.length from by omega)) <| oS (show AV.str (List.take ((Int.toNat (1 : Int)) - 0) (List.drop 0 s)) = jS ((List.drop 0 s).take (1 - 0)) from strE (by simp)))
      (oS (show jB (((List.drop 0 s).take (1 - 0)) == [45]) = jB (minusB s) from has_long c1)) (by kernel_rfl)
  · exact meets_run (fn := Tryz.f94) 0 (q1 ++ [rG [hhI 3 1, hhB 4 false]]) [{}] Tryz.func94 (by kernel_rfl) Tryz.call94
      (oA (oS (show AV.int .i64 (List.length ([45] : List UInt8)) = jI 1 from rfl)) <| oS (bF c1))
      (oS (show jB false = jB (minusB s) from has_short c1)) (by kernel_rfl)

theorem cutPrefix0_meets (s : List UInt8) : Meets Tryz.prog 140 [jS s, jS [45]] [] (jT [jS (if minusB s = true then s.drop 1 else s), jB (minusB s)]) [] := by
  by_cases c1 : minusB s = true
  · have hp := minus_pos c1
    exact meets_run (fn := Tryz.f140) 0 [rG [], rG [hhMB 2 (hasPrefix_meets s) true, hhB 3 false], rG [hhI 2 1, hhV 3 (jS (s.drop 1))]] [{}, {}] Tryz.func140 (by kernel_rfl) Tryz.call140
      (oA (oC (hasPrefix_meets s) rfl) <| oA (oS (boolT c1)) <| oA (oS (show AV.bool (!true) = jB false from rfl)) <| oA (oS (show AV.int .i64 (List.length ([45] : List UInt8)) = jI 1 from rfl)) <| oA (oS (show 0 ≤ (1 : Int) from by omega)) <| oA (oS (show ((Int.toNat (1 : Int)) : Nat) ≤ s.length from by omega)) <| oA (oS (show (s.length : Nat) ≤ s.length from by omega)) <| oA (oS (show (s.length : Nat) ≤ s.length from by omega)) <| oS (show AV.str (List.take (s.length - (Int.toNat (1 : Int))) (List.drop (Int.toNat (1 : Int)) s)) = jS (s.drop 1) from strE (by rw [List.take_of_length_le (by simp)]; rfl)))
      (oA (oS (show jT [jS (s.drop 1), jB true] = jT [jS (if minusB s = true then s.drop 1 else s), jB (minusB s)] from by simp [*])) <| oV (D := (fun n => decide (0 ≤ n))) (jT [jS (if minusB s = true then s.drop 1 else s), jB (minusB s)]) rfl) (by kernel_rfl)
  · exact meets_run (fn := Tryz.f140) 0 [rG [], rG [hhMB 2 (hasPrefix_meets s) false, hhB 3 true], rG []] [{}, {}] Tryz.func140 (by kernel_rfl) Tryz.call140
      (oA (oC (hasPrefix_meets s) rfl) <| oA (oS (boolF c1)) <| oS (show AV.bool (!false) = jB true from rfl))
      (oA (oS (show jT [jS s, jB false] = jT [jS (if minusB s = true then s.drop 1 else s), jB (minusB s)] from by simp [*])) <| oV (D := (fun n => decide (0 ≤ n))) (jT [jS (if minusB s = true then s.drop 1 else s), jB (minusB s)]) rfl) (by kernel_rfl)

theorem cutPrefix_meets (s : List UInt8) : Meets Tryz.prog 123 [jS s, jS [45]] [] (jT [jS (if minusB s = true then s.drop 1 else s), jB (minusB s)]) [] := by
  exact meets_run (fn := Tryz.f123) 0 [rG [], rG [hhM 2 (cutPrefix0_meets s)]] [{}, {}] Tryz.func123 (by kernel_rfl) Tryz.call123
    (oC (cutPrefix0_meets s) rfl)
    (oA (oS (@rfl _ (jT [jS (if minusB s = true then s.drop 1 else s), jB (minusB s)]))) <| oV (D := (fun n => decide (0 ≤ n))) (jT [jS (if minusB s = true then s.drop 1 else s), jB (minusB s)]) rfl) (by kernel_rfl)

end Go.Proofs.YtdomenmfkbfakaaGreatDoor.Dq


set_option linter.unusedVariables false
set_option linter.unusedSimpArgs false
set_option maxRecDepth 20000
namespace Go.Proofs.YtdomenmfkbfakaaGreatDoor.Dq
open Go Sx Dc

theorem getD_mem {s : List UInt8} {k : Nat} (h : k < s.length) : s.getD k 0 ∈ s := by
  have : s.getD k 0 = s[k] := by simp [List.getD, h]
  rw [this]; exact List.getElem_mem h

def digs_inv (s : List UInt8) (k : Nat) : AState :=
  ⟨([none, none, sB false, none, none, none, none, none, none, none, none, none, none, some (AV.vec 0 s.length), sI ((s.length : Nat) : Int), sI ((k : Nat) : Int)] ++ nn 10), [some (AObj.vec (u8s s) 5 1)]⟩

theorem digs_round (s : List UInt8) (k : Nat) (hs : s.length < 1000000) (h1 : k < s.length) (hd : okDig (s.getD k 0)) : Tri Tryz.prog (loopN (bodyOf Tryz.f125) 0) (digs_inv s k) .normal (digs_inv s (k + 1)) := by
  unfold okDig at hd
  exact tri_weak [rG [hhB 0 true], rG [hhV 0 (jP 0 k), hhV 1 (jU (((s.getD k 0).toNat : Nat) : Int))], rG [hhB 1 false, hhB 4 false], rG [hhI 0 ((k + 1 : Nat) : Int)]]
    (oA (oS (show AV.bool (decide (((k : Nat) : Int) < ((s.length : Nat) : Int))) = jB true from bT (by omega))) <| oA (oS (show 0 ≤ ((k : Nat) : Int) from by omega)) <| oA (oS (show ((k : Nat) : Int) < ((s.length : Nat) : Int) from by omega)) <| oA (oS (show AV.ptr 0 (Int.toNat ((k : Nat) : Int) * 1) = jP 0 k from ptrE (by omega))) <| oA (oLf (u8s s) (k) (jU (((s.getD k 0).toNat : Nat) : Int)) (u8s_get (by omega))) <| oA (oS (show AV.bool (decide ((((s.getD k 0).toNat : Nat) : Int) < 48)) = jB false from bF (by omega))) <| oA (oS (show AV.bool (decide ((((s.getD k 0).toNat : Nat) : Int) > 57)) = jB false from bF (by omega))) <| oW (((k : Nat) : Int) + 1) ((k + 1 : Nat) : Int) (by omega))
    (oA (oR [jB false, AV.vec 0 s.length, jI ((s.length : Nat) : Int), jI ((k + 1 : Nat) : Int)]) <| oQ [AObj.vec (u8s s) 5 1]) (by kernel_rfl)

def digs_ret (s : List UInt8) : AState :=
  ⟨([none, none, sB false] ++ nn 23), [some (AObj.vec (u8s s) 5 1)]⟩

theorem digs_bad (s : List UInt8) (k : Nat) (hs : s.length < 1000000) (h1 : k < s.length) (hd : ¬ okDig (s.getD k 0)) : Tri Tryz.prog (loopN (bodyOf Tryz.f125) 0) (digs_inv s k) .ret (digs_ret s) := by
  unfold okDig at hd
  have o1 := oA (oS (show AV.bool (decide (((k : Nat) : Int) < ((s.length : Nat) : Int))) = jB true from bT (by omega))) <| oA (oS (show 0 ≤ ((k : Nat) : Int) from by omega)) <| oA (oS (show ((k : Nat) : Int) < ((s.length : Nat) : Int) from by omega)) <| oA (oS (show AV.ptr 0 (Int.toNat ((k : Nat) : Int) * 1) = jP 0 k from ptrE (by omega))) <| oLf (u8s s) (k) (jU (((s.getD k 0).toNat : Nat) : Int)) (u8s_get (by omega))
  let q1 : List Orc := [rG [hhB 0 true], rG [hhV 0 (jP 0 k), hhV 1 (jU (((s.getD k 0).toNat : Nat) : Int))]]
  by_cases c2 : (((s.getD k 0).toNat : Nat) : Int) < 48
  · exact tri_weak (q1 ++ [rG [hhB 1 true], rG []])
      (oA o1 <| oS (bT c2))
      (oA (oR [jB false]) <| oQ [AObj.vec (u8s s) 5 1]) (by kernel_rfl)
  · by_cases c3 : (((s.getD k 0).toNat : Nat) : Int) > 57
    · exact tri_weak (q1 ++ [rG [hhB 1 false, hhB 4 true], rG []])
        (oA o1 <| oA (oS (bF c2)) <| oS (bT c3))
        (oA (oR [jB false]) <| oQ [AObj.vec (u8s s) 5 1]) (by kernel_rfl)
    · omega

def digs_out (s : List UInt8) : AState :=
  ⟨([none] ++ nn 25), [some (AObj.vec (u8s s) 5 1)]⟩

theorem digs_last (s : List UInt8) (hs : s.length < 1000000) : Tri Tryz.prog (loopN (bodyOf Tryz.f125) 0) (digs_inv s s.length) (.exit 0) (digs_out s) := by
  exact tri_weak [rG [hhB 0 false]]
    (oS (show AV.bool (decide (((s.length : Nat) : Int) < ((s.length : Nat) : Int))) = jB false from bF (by omega)))
    (oQ [AObj.vec (u8s s) 5 1]) (by kernel_rfl)

theorem digs_loop_ok (s : List UInt8) (hs : s.length < 1000000) (h : ∀ b ∈ s, okDig b) : Tri Tryz.prog (.loop (loopN (bodyOf Tryz.f125) 0)) (digs_inv s 0) (.exit 0) (digs_out s) :=
  tri_up (digs_inv s) (ne_normal_exit 0) s.length (fun k hk => digs_round s k hs hk (h _ (getD_mem hk))) (digs_last s hs) 0 (Nat.zero_le _)
theorem digs_loop_bad (s : List UInt8) (hs : s.length < 1000000) (h : ¬ ∀ b ∈ s, okDig b) : Tri Tryz.prog (.loop (loopN (bodyOf Tryz.f125) 0)) (digs_inv s 0) .ret (digs_ret s) :=
  tri_loop (ι := {k : Nat // k ≤ s.length ∧ ∀ j, j < k → okDig (s.getD j 0)}) (fun i => digs_inv s i.1) (fun i => s.length - i.1) ne_normal_ret (by
    rintro ⟨k, hk, hall⟩
    have h0 : k < s.length := by
      rcases Nat.lt_or_ge k s.length with g | g
      · exact g
      · exfalso
        apply h
        intro b hb
        obtain ⟨j, hj, rfl⟩ := List.getElem_of_mem hb
        have := hall j (by omega)
        simpa [List.getD, hj] using this
    by_cases hc : okDig (s.getD k 0)
    · refine .inl ⟨⟨k + 1, by omega, fun j hj => ?_⟩, by show s.length - (k + 1) < s.length - k; omega, digs_round s k hs h0 hc⟩
      by_cases e : j = k
      · subst e; exact hc
      · exact hall j (by omega)
    · exact .inr (digs_bad s k hs h0 hc)) ⟨0, Nat.zero_le _, fun j hj => by omega⟩

theorem areDigits_meets (s : List UInt8) (hs : s.length < 1000000) : Meets Tryz.prog 125 [jS s] [] (jB (isDigs s)) [] := by
  let q1 : List Orc := [rG []]
  by_cases c1 : s = []
  · exact meets_run (fn := Tryz.f125) 1 (q1 ++ [rG [hhB 1 true], rG []]) [{}] Tryz.func125 (by kernel_rfl) Tryz.call125
      (oS (eqT c1))
      (oS (show jB false = jB (isDigs s) from boolE (by first | (simp only [isDigs]; symm; simp only [decide_eq_false_iff_not, decide_eq_true_eq]; rintro ⟨g1, g2, g3⟩; first | exact g1 c1 | omega | exact c3 g3) | (simp only [isDigs]; symm; simp only [decide_eq_true_eq]; exact ⟨c1, by omega, c3⟩)))) (by kernel_rfl)
  · by_cases c2 : ((s.length : Nat) : Int) > 40
    · exact meets_run (fn := Tryz.f125) 1 (q1 ++ [rG [hhB 1 false, hhB 5 true], rG []]) [{}] Tryz.func125 (by kernel_rfl) Tryz.call125
        (oA (oS (eqF c1)) <| oS (bT c2))
        (oS (show jB false = jB (isDigs s) from boolE (by first | (simp only [isDigs]; symm; simp only [decide_eq_false_iff_not, decide_eq_true_eq]; rintro ⟨g1, g2, g3⟩; first | exact g1 c1 | omega | exact c3 g3) | (simp only [isDigs]; symm; simp only [decide_eq_true_eq]; exact ⟨c1, by omega, c3⟩)))) (by kernel_rfl)
    · have o1 := oA (oS (eqF c1)) <| oS (bF c2)
      let q2 : List Orc := [rG [hhB 1 false, hhB 5 false], rG [hhN 1 0]]
      by_cases c3 : ∀ b ∈ s, okDig b
      · exact meets_run (fn := Tryz.f125) 1 (q1 ++ (q2 ++ [.loop (⟨([none, none, sB false, none, none, none, none, none, none, none, none, none, none, some (AV.vec 0 s.length), sI ((s.length : Nat) : Int), sI 0] ++ nn 10), [some (AObj.vec (u8s s) 5 1)]⟩) (.exit 0) (⟨([none] ++ nn 25), [some (AObj.vec (u8s s) 5 1)]⟩), rG []])) [{}] Tryz.func125 (by kernel_rfl) Tryz.call125
          (oA o1 <| oA (oR [jB false, AV.vec 0 s.length, jI ((s.length : Nat) : Int), jI 0]) <| oA (oQ [AObj.vec (u8s s) 5 1]) <| oS (show Tri Tryz.prog (.loop (loopN (bodyOf Tryz.f125) 0)) (⟨([none, none, sB false, none, none, none, none, none, none, none, none, none, none, some (AV.vec 0 s.length), sI ((s.length : Nat) : Int), sI 0] ++ nn 10), [some (AObj.vec (u8s s) 5 1)]⟩) (.exit 0) (⟨([none] ++ nn 25), [some (AObj.vec (u8s s) 5 1)]⟩) from digs_loop_ok s hs c3))
          (oS (show jB true = jB (isDigs s) from boolE (by first | (simp only [isDigs]; symm; simp only [decide_eq_false_iff_not, decide_eq_true_eq]; rintro ⟨g1, g2, g3⟩; first | exact g1 c1 | omega | exact c3 g3) | (simp only [isDigs]; symm; simp only [decide_eq_true_eq]; exact ⟨c1, by omega, c3⟩)))) (by kernel_rfl)
      · exact meets_run (fn := Tryz.f125) 1 (q1 ++ (q2 ++ [.loop (⟨([none, none, sB false, none, none, none, none, none, none, none, none, none, none, some (AV.vec 0 s.length), sI ((s.length : Nat) : Int), sI 0] ++ nn 10), [some (AObj.vec (u8s s) 5 1)]⟩) .ret (⟨([none, none, sB false] ++ nn 23), [some (AObj.vec (u8s s) 5 1)]⟩)])) [{}] Tryz.func125 (by kernel_rfl) Tryz.call125
          (oA o1 <| oA (oR [jB false, AV.vec 0 s.length, jI ((s.length : Nat) : Int), jI 0]) <| oA (oQ [AObj.vec (u8s s) 5 1]) <| oS (show Tri Tryz.prog (.loop (loopN (bodyOf Tryz.f125) 0)) (⟨([none, none, sB false, none, none, none, none, none, none, none, none, none, none, some (AV.vec 0 s.length), sI ((s.length : Nat) : Int), sI 0] ++ nn 10), [some (AObj.vec (u8s s) 5 1)]⟩) .ret (⟨([none, none, sB false] ++ nn 23), [some (AObj.vec (u8s s) 5 1)]⟩) from digs_loop_bad s hs c3))
          (oS (show jB false = jB (isDigs s) from boolE (by first | (simp only [isDigs]; symm; simp only [decide_eq_false_iff_not, decide_eq_true_eq]; rintro ⟨g1, g2, g3⟩; first | exact g1 c1 | omega | exact c3 g3) | (simp only [isDigs]; symm; simp only [decide_eq_true_eq]; exact ⟨c1, by omega, c3⟩)))) (by kernel_rfl)

end Go.Proofs.YtdomenmfkbfakaaGreatDoor.Dq


set_option linter.unusedVariables false
set_option linter.unusedSimpArgs false
set_option maxRecDepth 20000
namespace Go.Proofs.YtdomenmfkbfakaaGreatDoor.Dq
open Go Sx Dc

/-- A text's figures: so many noughts, its digits, and noughts. -/
def wrA (w : List UInt8) (k : Nat) : List Int := List.replicate (48 - w.length) 0 ++ (bytesD (w.take k) ++ List.replicate (40 + w.length - k) 0)
def wrB (w p : List UInt8) (k : Nat) : List Int := List.replicate (48 - w.length) 0 ++ (bytesD w ++ (bytesD (p.take k) ++ List.replicate (40 - k) 0))
theorem bytesD_take_succ {s : List UInt8} {k : Nat} (h : k < s.length) : bytesD (s.take (k + 1)) = bytesD (s.take k) ++ [((s.getD k 0).toNat : Int) - 48] := by
  unfold bytesD
  rw [List.take_succ_eq_append_getElem h, List.map_append]
  simp [List.getD, h]
theorem wrA_length {w : List UInt8} {k : Nat} (hw : w.length ≤ 40) (hk : k ≤ w.length) : (wrA w k).length = 88 := by
  simp only [wrA, List.length_append, List.length_replicate, bytesD_length, List.length_take]; omega
theorem wrB_length {w p : List UInt8} {k : Nat} (hw : w.length ≤ 40) (hp : p.length ≤ 40) (hk : k ≤ p.length) : (wrB w p k).length = 88 := by
  simp only [wrB, List.length_append, List.length_replicate, bytesD_length, List.length_take]; omega
theorem wrA_zero (w : List UInt8) (hw : w.length ≤ 40) : wrA w 0 = List.replicate 88 0 := by
  simp only [wrA, List.take_zero, bytesD, List.map_nil, List.nil_append, List.replicate_append_replicate]
  congr 1; omega
theorem wrA_end (w p : List UInt8) : wrA w w.length = wrB w p 0 := by
  simp only [wrA, wrB, List.take_zero, List.take_length, bytesD, List.map_nil, List.nil_append]
  congr 3; omega
theorem set_next {pre xs : List Int} {m : Nat} (i : Nat) (d : Int) (hi : i = pre.length + xs.length) : (pre ++ (xs ++ List.replicate (m + 1) 0)).set i d = pre ++ ((xs ++ [d]) ++ List.replicate m 0) := by
  subst hi
  rw [List.set_append_right _ _ (by omega), show pre.length + xs.length - pre.length = xs.length by omega, List.set_append_right _ _ (by omega), Nat.sub_self, List.replicate_succ, List.set_cons_zero]
  simp
theorem wrA_step {w : List UInt8} {k : Nat} (hw : w.length ≤ 40) (hk : k < w.length) : (wrA w k).set (48 - w.length + k) (((w.getD k 0).toNat : Int) - 48) = wrA w (k + 1) := by
  unfold wrA
  rw [bytesD_take_succ hk, show 40 + w.length - k = (40 + w.length - (k + 1)) + 1 by omega]
  exact set_next _ _ (by simp [bytesD_length]; omega)
theorem wrB_step {w p : List UInt8} {k : Nat} (hw : w.length ≤ 40) (hp : p.length ≤ 40) (hk : k < p.length) : (wrB w p k).set (48 + k) (((p.getD k 0).toNat : Int) - 48) = wrB w p (k + 1) := by
  unfold wrB
  rw [bytesD_take_succ hk, show 40 - k = (40 - (k + 1)) + 1 by omega, ← List.append_assoc, ← List.append_assoc (List.replicate (48 - w.length) 0) (bytesD w)]
  exact set_next _ _ (by simp [bytesD_length]; omega)
theorem wrB_digs {w p : List UInt8} (hw : w.length ≤ 40) (hp : p.length ≤ 40) (gw : ∀ b ∈ w, okDig b) (gp : ∀ b ∈ p, okDig b) : wrB w p p.length = digs 88 (wrV w p) := by
  refine eq_digs ?_ (wrB_length hw hp (Nat.le_refl _)) ?_
  · unfold wrB
    rw [List.take_length]
    exact (dig_zeros _).append ((bytesD_dig gw).append ((bytesD_dig gp).append (dig_zeros _)))
  · unfold wrB wrV
    rw [List.take_length, val_append, val_append, val_append, val_zeros, val_zeros]
    simp only [List.length_append, bytesD_length, List.length_replicate, show p.length + (40 - p.length) = 40 by omega]
    omega
attribute [irreducible] wrA wrB

def wr_i1 (mx : Bool) (w p : List UInt8) (ds : List Int) (k : Nat) : AState :=
  ⟨([none, none, sP 0 0, none, none, none, some (jS w), some (jS p), none, sP 1 0, none, none, none, none, none, none, none, none, none, none, none, none, none, none, none, none, none, none, none, none, none, none, none, none, none, none, none, none, none, none, some (AV.vec 2 w.length), sI ((w.length : Nat) : Int), sI ((k : Nat) : Int)] ++ nn 30), [some (jC ((jB false) :: (ints .u8 (List.replicate 88 0))) 96), some (jC ((jB mx) :: (ints .u8 ds)) 96), some (AObj.vec (u8s w) 5 1), none]⟩

theorem wr_r1 (mx : Bool) (w p : List UInt8) (ds : List Int) (k : Nat) (hl : ds.length = 88) (hw : w.length ≤ 40) (h1 : k < w.length) (hd : okDig (w.getD k 0)) : Tri Tryz.prog (loopN (bodyOf Tryz.f95) 0) (wr_i1 mx w p ds k) .normal (wr_i1 mx w p (ds.set (48 - w.length + k) ((((w.getD k 0).toNat : Nat) : Int) - 48)) (k + 1)) := by
  unfold okDig at hd
  exact tri_weak [rG [hhB 0 true], rG [hhV 1 (jP 2 k), hhV 2 (jU (((w.getD k 0).toNat : Nat) : Int))], rG [hhI 2 (((48 - w.length) : Nat) : Int), hhI 4 (((48 - w.length + k) : Nat) : Int), hhV 6 (jU ((((w.getD k 0).toNat : Nat) : Int) - 48)), hhV 8 (jP 1 ((48 - w.length + k) + 1)), (9, {obj := some [jC ((jB mx) :: (ints .u8 (ds.set (48 - w.length + k) ((((w.getD k 0).toNat : Nat) : Int) - 48)))) 96]})], rG [hhI 0 ((k + 1 : Nat) : Int)]]
    (oA (oS (show AV.bool (decide (((k : Nat) : Int) < ((w.length : Nat) : Int))) = jB true from bT (by omega))) <| oA (oS (show 0 ≤ ((k : Nat) : Int) from by omega)) <| oA (oS (show ((k : Nat) : Int) < ((w.length : Nat) : Int) from by omega)) <| oA (oS (show AV.ptr 2 (Int.toNat ((k : Nat) : Int) * 1) = jP 2 k from ptrE (by omega))) <| oA (oLf (u8s w) (k) (jU (((w.getD k 0).toNat : Nat) : Int)) (u8s_get (by omega))) <| oA (oW (48 - ((w.length : Nat) : Int)) (((48 - w.length) : Nat) : Int) (by omega)) <| oA (oW ((((48 - w.length) : Nat) : Int) + ((k : Nat) : Int)) (((48 - w.length + k) : Nat) : Int) (by omega)) <| oA (oS (show AV.int .u8 (IntKind.u8.wrap ((((w.getD k 0).toNat : Nat) : Int) - 48)) = jU ((((w.getD k 0).toNat : Nat) : Int) - 48) from w_u8 (by omega))) <| oA (oS (show 0 ≤ (((48 - w.length + k) : Nat) : Int) from by omega)) <| oA (oS (show (((48 - w.length + k) : Nat) : Int) < ((88 : Nat) : Int) from by omega)) <| oA (oS (show AV.ptr 1 (1 + Int.toNat (((48 - w.length + k) : Nat) : Int) * 1) = jP 1 ((48 - w.length + k) + 1) from ptrE (by omega))) <| oA (oS (show ([jU ((((w.getD k 0).toNat : Nat) : Int) - 48)] : List AV).length = 1 from rfl)) <| oA (oS (show ((48 - w.length + k) + 1) + 1 ≤ List.length ((jB mx) :: (ints .u8 ds)) from lnO)) <| oA (oS (show AObj.cells (List.take ((48 - w.length + k) + 1) ((jB mx) :: (ints .u8 ds)) ++ [jU ((((w.getD k 0).toNat : Nat) : Int) - 48)] ++ List.drop (((48 - w.length + k) + 1) + 1) ((jB mx) :: (ints .u8 ds))) 96 = jC ((jB mx) :: (ints .u8 (ds.set (48 - w.length + k) ((((w.getD k 0).toNat : Nat) : Int) - 48)))) 96 from store_ints [jB mx] (by omega))) <| oW (((k : Nat) : Int) + 1) ((k + 1 : Nat) : Int) (by omega))
    (oA (oR [jP 0 0, jS w, jS p, jP 1 0, AV.vec 2 w.length, jI ((w.length : Nat) : Int), jI ((k + 1 : Nat) : Int)]) <| oQ [jC ((jB false) :: (ints .u8 (List.replicate 88 0))) 96, jC ((jB mx) :: (ints .u8 (ds.set (48 - w.length + k) ((((w.getD k 0).toNat : Nat) : Int) - 48)))) 96, AObj.vec (u8s w) 5 1]) (by kernel_rfl)

def wr_o1 (mx : Bool) (w p : List UInt8) (ds : List Int) : AState :=
  ⟨([none, none, sP 0 0, none, none, none, some (jS w), some (jS p), none, sP 1 0] ++ nn 63), [some (jC ((jB false) :: (ints .u8 (List.replicate 88 0))) 96), some (jC ((jB mx) :: (ints .u8 ds)) 96), some (AObj.vec (u8s w) 5 1), none]⟩

theorem wr_x1 (mx : Bool) (w p : List UInt8) (ds : List Int) (hw : w.length ≤ 40) : Tri Tryz.prog (loopN (bodyOf Tryz.f95) 0) (wr_i1 mx w p ds w.length) (.exit 0) (wr_o1 mx w p ds) := by
  exact tri_weak [rG [hhB 0 false]]
    (oS (show AV.bool (decide (((w.length : Nat) : Int) < ((w.length : Nat) : Int))) = jB false from bF (by omega)))
    (oA (oR [jP 0 0, jS w, jS p, jP 1 0]) <| oQ [jC ((jB false) :: (ints .u8 (List.replicate 88 0))) 96, jC ((jB mx) :: (ints .u8 ds)) 96, AObj.vec (u8s w) 5 1]) (by kernel_rfl)

def wr_i2 (mx : Bool) (w p : List UInt8) (ds : List Int) (k : Nat) : AState :=
  ⟨([none, none, sP 0 0, none, none, none, none, none, none, sP 1 0, none, none, none, none, none, none, none, none, none, none, none, none, none, none, none, none, none, none, none, none, none, none, none, none, none, none, none, none, none, none, none, none, none, none, none, none, none, none, none, none, none, none, none, none, none, none, none, none, some (AV.vec 3 p.length), sI ((p.length : Nat) : Int), sI ((k : Nat) : Int)] ++ nn 12), [some (jC ((jB false) :: (ints .u8 (List.replicate 88 0))) 96), some (jC ((jB mx) :: (ints .u8 ds)) 96), some (AObj.vec (u8s w) 5 1), some (AObj.vec (u8s p) 5 1)]⟩

theorem wr_r2 (mx : Bool) (w p : List UInt8) (ds : List Int) (k : Nat) (hl : ds.length = 88) (hp : p.length ≤ 40) (h1 : k < p.length) (hd : okDig (p.getD k 0)) : Tri Tryz.prog (loopN (bodyOf Tryz.f95) 1) (wr_i2 mx w p ds k) .normal (wr_i2 mx w p (ds.set (48 + k) ((((p.getD k 0).toNat : Nat) : Int) - 48)) (k + 1)) := by
  unfold okDig at hd
  exact tri_weak [rG [hhB 0 true], rG [hhV 1 (jP 3 k), hhV 2 (jU (((p.getD k 0).toNat : Nat) : Int))], rG [hhI 1 (((48 + k) : Nat) : Int), hhV 3 (jU ((((p.getD k 0).toNat : Nat) : Int) - 48)), hhV 5 (jP 1 ((48 + k) + 1)), (6, {obj := some [jC ((jB mx) :: (ints .u8 (ds.set (48 + k) ((((p.getD k 0).toNat : Nat) : Int) - 48)))) 96]})], rG [hhI 0 ((k + 1 : Nat) : Int)]]
    (oA (oS (show AV.bool (decide (((k : Nat) : Int) < ((p.length : Nat) : Int))) = jB true from bT (by omega))) <| oA (oS (show 0 ≤ ((k : Nat) : Int) from by omega)) <| oA (oS (show ((k : Nat) : Int) < ((p.length : Nat) : Int) from by omega)) <| oA (oS (show AV.ptr 3 (Int.toNat ((k : Nat) : Int) * 1) = jP 3 k from ptrE (by omega))) <| oA (oLf (u8s p) (k) (jU (((p.getD k 0).toNat : Nat) : Int)) (u8s_get (by omega))) <| oA (oW (48 + ((k : Nat) : Int)) (((48 + k) : Nat) : Int) (by omega)) <| oA (oS (show AV.int .u8 (IntKind.u8.wrap ((((p.getD k 0).toNat : Nat) : Int) - 48)) = jU ((((p.getD k 0).toNat : Nat) : Int) - 48) from w_u8 (by omega))) <| oA (oS (show 0 ≤ (((48 + k) : Nat) : Int) from by omega)) <| oA (oS (show (((48 + k) : Nat) : Int) < ((88 : Nat) : Int) from by omega)) <| oA (oS (show AV.ptr 1 (1 + Int.toNat (((48 + k) : Nat) : Int) * 1) = jP 1 ((48 + k) + 1) from ptrE (by omega))) <| oA (oS (show ([jU ((((p.getD k 0).toNat : Nat) : Int) - 48)] : List AV).length = 1 from rfl)) <| oA (oS (show ((48 + k) + 1) + 1 ≤ List.length ((jB mx) :: (ints .u8 ds)) from lnO)) <| oA (oS (show AObj.cells (List.take ((48 + k) + 1) ((jB mx) :: (ints .u8 ds)) ++ [jU ((((p.getD k 0).toNat : Nat) : Int) - 48)] ++ List.drop (((48 + k) + 1) + 1) ((jB mx) :: (ints .u8 ds))) 96 = jC ((jB mx) :: (ints .u8 (ds.set (48 + k) ((((p.getD k 0).toNat : Nat) : Int) - 48)))) 96 from store_ints [jB mx] (by omega))) <| oW (((k : Nat) : Int) + 1) ((k + 1 : Nat) : Int) (by omega))
    (oA (oR [jP 0 0, jP 1 0, AV.vec 3 p.length, jI ((p.length : Nat) : Int), jI ((k + 1 : Nat) : Int)]) <| oQ [jC ((jB false) :: (ints .u8 (List.replicate 88 0))) 96, jC ((jB mx) :: (ints .u8 (ds.set (48 + k) ((((p.getD k 0).toNat : Nat) : Int) - 48)))) 96, AObj.vec (u8s w) 5 1, AObj.vec (u8s p) 5 1]) (by kernel_rfl)

def wr_o2 (mx : Bool) (w p : List UInt8) (ds : List Int) : AState :=
  ⟨([none, none, sP 0 0, none, none, none, none, none, none, sP 1 0] ++ nn 63), [some (jC ((jB false) :: (ints .u8 (List.replicate 88 0))) 96), some (jC ((jB mx) :: (ints .u8 ds)) 96), some (AObj.vec (u8s w) 5 1), some (AObj.vec (u8s p) 5 1)]⟩

theorem wr_x2 (mx : Bool) (w p : List UInt8) (ds : List Int) (hp : p.length ≤ 40) : Tri Tryz.prog (loopN (bodyOf Tryz.f95) 1) (wr_i2 mx w p ds p.length) (.exit 2) (wr_o2 mx w p ds) := by
  exact tri_weak [rG [hhB 0 false]]
    (oS (show AV.bool (decide (((p.length : Nat) : Int) < ((p.length : Nat) : Int))) = jB false from bF (by omega)))
    (oA (oR [jP 0 0, jP 1 0]) <| oQ [jC ((jB false) :: (ints .u8 (List.replicate 88 0))) 96, jC ((jB mx) :: (ints .u8 ds)) 96, AObj.vec (u8s w) 5 1, AObj.vec (u8s p) 5 1]) (by kernel_rfl)

theorem wr_l1 (mx : Bool) (w p : List UInt8) (hw : w.length ≤ 40) (gw : ∀ b ∈ w, okDig b) : Tri Tryz.prog (.loop (loopN (bodyOf Tryz.f95) 0)) (wr_i1 mx w p (wrA w 0) 0) (.exit 0) (wr_o1 mx w p (wrA w w.length)) :=
  tri_up (fun k => wr_i1 mx w p (wrA w k) k) (ne_normal_exit 0) w.length (fun k hk => by
    have h := wr_r1 mx w p (wrA w k) k (wrA_length hw (by omega)) hw hk (gw _ (getD_mem hk))
    rw [wrA_step hw hk] at h
    exact h) (wr_x1 mx w p _ hw) 0 (Nat.zero_le _)
theorem wr_l2 (mx : Bool) (w p : List UInt8) (hw : w.length ≤ 40) (hp : p.length ≤ 40) (gp : ∀ b ∈ p, okDig b) : Tri Tryz.prog (.loop (loopN (bodyOf Tryz.f95) 1)) (wr_i2 mx w p (wrB w p 0) 0) (.exit 2) (wr_o2 mx w p (wrB w p p.length)) :=
  tri_up (fun k => wr_i2 mx w p (wrB w p k) k) (ne_normal_exit 2) p.length (fun k hk => by
    have h := wr_r2 mx w p (wrB w p k) k (wrB_length hw hp (by omega)) hp hk (gp _ (getD_mem hk))
    rw [wrB_step hw hp hk] at h
    exact h) (wr_x2 mx w p _ hp) 0 (Nat.zero_le _)
theorem isDigs_spec {s : List UInt8} (h : isDigs s = true) : s ≠ [] ∧ s.length ≤ 40 ∧ ∀ b ∈ s, okDig b := by simpa only [isDigs, decide_eq_true_eq] using h

theorem written_ok (s b w p : List UInt8) (mx pt : Bool) (hs : s.length < 1000000) (hbl : b.length < 1000000) (hwn : w.length < 1000000) (hpn : p.length < 1000000) (hmx : minusB s = mx) (hb : bodyS s = b) (hw : wholeS b = w) (hp : partS b = p) (hpt : decide (0 ≤ idx46 b) = pt) (hpe : pt = false → p = []) (h1 : isDigs w = true) (h2 : pt = true → isDigs p = true) : Meets Tryz.prog 95 [jS s] [] (jT [jA ((jB mx) :: (ints .u8 (digs 88 (wrV w p)))), jB true]) [] := by
  have hwl := (isDigs_spec h1).2.1
  have gw := (isDigs_spec h1).2.2
  have gp : ∀ b ∈ p, okDig b := by
    cases hq : pt with
    | true => exact (isDigs_spec (h2 hq)).2.2
    | false => rw [hpe hq]; intro b hb; cases hb
  have hpl : p.length ≤ 40 := by
    cases hq : pt with
    | true => exact (isDigs_spec (h2 hq)).2.1
    | false => rw [hpe hq]; decide
  have e1 := wrB_digs hwl hpl gw gp
  have len1 := wrA_length hwl (Nat.le_refl _)
  have len2 := wrB_length hwl hpl (Nat.le_refl _)
  have o1 := oA (oS (show AObj.cells (zeroCellsA Tryz.prog 96) 96 = jC ((jB false) :: (ints .u8 (List.replicate 88 0))) 96 from by kernel_rfl)) <| oA (oC (cutPrefix_meets s) rfl) <| oS (show AV.ren [] (jT [jS (if minusB s = true then s.drop 1 else s), jB (minusB s)]) = jT [jS b, jB mx] from (by rw [← hb, ← hmx]; rfl))
  let q1 : List Orc := [rG [(0, {nm := [0], obj := some [jC ((jB false) :: (ints .u8 (List.replicate 88 0))) 96]})], rG [(1, {call := some ⟨[], [jS s, jS [45]], [], jT [jS (if minusB s = true then s.drop 1 else s), jB (minusB s)], []⟩, val := some (jT [jS b, jB mx])})]]
  by_cases c1 : pt = true
  · exact meets_run (fn := Tryz.f95) 4 (q1 ++ [rG [(1, {call := some ⟨[], [jS b, jS [46]], [], jT [jS (if 0 ≤ idx46 b then b.take (idx46 b).toNat else b), jS (if 0 ≤ idx46 b then b.drop ((idx46 b).toNat + 1) else []), jB (decide (0 ≤ idx46 b))], []⟩, val := some (jT [jS w, jS p, jB true])})], rG [hhMB 1 (areDigits_meets w (by omega)) true, hhB 2 false, hhMB 7 (areDigits_meets p (by omega)) true, hhB 8 false], rG [hhV 1 (jA ((jB mx) :: (ints .u8 (List.replicate 88 0)))), (2, {nm := [1], obj := some [jC ((jB false) :: (ints .u8 (List.replicate 88 0))) 96]}), (3, {obj := some [jC ((jB mx) :: (ints .u8 (List.replicate 88 0))) 96]})], rG [hhN 1 2], .loop (⟨([none, none, sP 0 0, none, none, none, some (jS w), some (jS p), none, sP 1 0, none, none, none, none, none, none, none, none, none, none, none, none, none, none, none, none, none, none, none, none, none, none, none, none, none, none, none, none, none, none, some (AV.vec 2 w.length), sI ((w.length : Nat) : Int), sI 0] ++ nn 30), [some (jC ((jB false) :: (ints .u8 (List.replicate 88 0))) 96), some (jC ((jB mx) :: (ints .u8 (wrA w 0))) 96), some (AObj.vec (u8s w) 5 1), none]⟩) (.exit 0) (⟨([none, none, sP 0 0, none, none, none, some (jS w), some (jS p), none, sP 1 0] ++ nn 63), [some (jC ((jB false) :: (ints .u8 (List.replicate 88 0))) 96), some (jC ((jB mx) :: (ints .u8 (wrA w w.length))) 96), some (AObj.vec (u8s w) 5 1), none]⟩), rG [hhN 1 3], .loop (⟨([none, none, sP 0 0, none, none, none, none, none, none, sP 1 0, none, none, none, none, none, none, none, none, none, none, none, none, none, none, none, none, none, none, none, none, none, none, none, none, none, none, none, none, none, none, none, none, none, none, none, none, none, none, none, none, none, none, none, none, none, none, none, none, some (AV.vec 3 p.length), sI ((p.length : Nat) : Int), sI 0] ++ nn 12), [some (jC ((jB false) :: (ints .u8 (List.replicate 88 0))) 96), some (jC ((jB mx) :: (ints .u8 (wrB w p 0))) 96), some (AObj.vec (u8s w) 5 1), some (AObj.vec (u8s p) 5 1)]⟩) (.exit 2) (⟨([none, none, sP 0 0, none, none, none, none, none, none, sP 1 0] ++ nn 63), [some (jC ((jB false) :: (ints .u8 (List.replicate 88 0))) 96), some (jC ((jB mx) :: (ints .u8 (wrB w p p.length))) 96), some (AObj.vec (u8s w) 5 1), some (AObj.vec (u8s p) 5 1)]⟩), rG [hhV 0 (jA ((jB mx) :: (ints .u8 (wrB w p p.length)))), (1, {obj := some [jC ((jB mx) :: (ints .u8 (wrB w p p.length))) 96]})]]) [{val := some (jA ((jB mx) :: (ints .u8 (wrB w p p.length))))}, {}] Tryz.func95 (by kernel_rfl) Tryz.call95
      (oA o1 <| oA (oC (cut_meets b hbl) rfl) <| oA (oS (show AV.ren [] (jT [jS (if 0 ≤ idx46 b then b.take (idx46 b).toNat else b), jS (if 0 ≤ idx46 b then b.drop ((idx46 b).toNat + 1) else []), jB (decide (0 ≤ idx46 b))]) = jT [jS w, jS p, jB true] from (by rw [show decide (0 ≤ idx46 b) = true by rw [hpt]; simpa using c1, ← hw, ← hp]; rfl))) <| oA (oC (areDigits_meets w (by omega)) rfl) <| oA (oS (boolT h1)) <| oA (oS (show AV.bool (!true) = jB false from rfl)) <| oA (oC (areDigits_meets p (by omega)) rfl) <| oA (oS (show AV.ren [] (jB (isDigs p)) = jB true from boolT (h2 c1))) <| oA (oS (show AV.bool (!true) = jB false from rfl)) <| oA (oS (show ([jB mx] : List AV).length = 1 from rfl)) <| oA (oS (show 0 + 1 ≤ ((zeroCellsA Tryz.prog 96) : List AV).length from Nat.le_of_ble_eq_true (by kernel_rfl))) <| oA (oS (show AV.agg (List.take 0 (zeroCellsA Tryz.prog 96) ++ [jB mx] ++ List.drop 1 (zeroCellsA Tryz.prog 96)) = jA ((jB mx) :: (ints .u8 (List.replicate 88 0))) from by kernel_rfl)) <| oA (oS (show AObj.cells (zeroCellsA Tryz.prog 96) 96 = jC ((jB false) :: (ints .u8 (List.replicate 88 0))) 96 from by kernel_rfl)) <| oA (oSw (n := 89) ((jB mx) :: (ints .u8 (List.replicate 88 0))) ((jB false) :: (ints .u8 (List.replicate 88 0))) 96 lnO lnO) <| oA (oR [jP 0 0, jS w, jS p, jP 1 0, AV.vec 2 w.length, jI ((w.length : Nat) : Int), jI 0]) <| oA (oQ [jC ((jB false) :: (ints .u8 (List.replicate 88 0))) 96]) <| oA (oS (show jC ((jB mx) :: (ints .u8 (List.replicate 88 0))) 96 = jC ((jB mx) :: (ints .u8 (wrA w 0))) 96 from by rw [wrA_zero w hwl])) <| oA (oQ [AObj.vec (u8s w) 5 1]) <| oA (oS (show Tri Tryz.prog (.loop (loopN (bodyOf Tryz.f95) 0)) (⟨([none, none, sP 0 0, none, none, none, some (jS w), some (jS p), none, sP 1 0, none, none, none, none, none, none, none, none, none, none, none, none, none, none, none, none, none, none, none, none, none, none, none, none, none, none, none, none, none, none, some (AV.vec 2 w.length), sI ((w.length : Nat) : Int), sI 0] ++ nn 30), [some (jC ((jB false) :: (ints .u8 (List.replicate 88 0))) 96), some (jC ((jB mx) :: (ints .u8 (wrA w 0))) 96), some (AObj.vec (u8s w) 5 1), none]⟩) (.exit 0) (⟨([none, none, sP 0 0, none, none, none, some (jS w), some (jS p), none, sP 1 0] ++ nn 63), [some (jC ((jB false) :: (ints .u8 (List.replicate 88 0))) 96), some (jC ((jB mx) :: (ints .u8 (wrA w w.length))) 96), some (AObj.vec (u8s w) 5 1), none]⟩) from wr_l1 mx w p hwl gw)) <| oA (oR [jP 0 0, jP 1 0, AV.vec 3 p.length, jI ((p.length : Nat) : Int), jI 0]) <| oA (oQ [jC ((jB false) :: (ints .u8 (List.replicate 88 0))) 96]) <| oA (oS (show jC ((jB mx) :: (ints .u8 (wrA w w.length))) 96 = jC ((jB mx) :: (ints .u8 (wrB w p 0))) 96 from by rw [wrA_end w p])) <| oA (oQ [AObj.vec (u8s w) 5 1, AObj.vec (u8s p) 5 1]) <| oA (oS (show Tri Tryz.prog (.loop (loopN (bodyOf Tryz.f95) 1)) (⟨([none, none, sP 0 0, none, none, none, none, none, none, sP 1 0, none, none, none, none, none, none, none, none, none, none, none, none, none, none, none, none, none, none, none, none, none, none, none, none, none, none, none, none, none, none, none, none, none, none, none, none, none, none, none, none, none, none, none, none, none, none, none, none, some (AV.vec 3 p.length), sI ((p.length : Nat) : Int), sI 0] ++ nn 12), [some (jC ((jB false) :: (ints .u8 (List.replicate 88 0))) 96), some (jC ((jB mx) :: (ints .u8 (wrB w p 0))) 96), some (AObj.vec (u8s w) 5 1), some (AObj.vec (u8s p) 5 1)]⟩) (.exit 2) (⟨([none, none, sP 0 0, none, none, none, none, none, none, sP 1 0] ++ nn 63), [some (jC ((jB false) :: (ints .u8 (List.replicate 88 0))) 96), some (jC ((jB mx) :: (ints .u8 (wrB w p p.length))) 96), some (AObj.vec (u8s w) 5 1), some (AObj.vec (u8s p) 5 1)]⟩) from wr_l2 mx w p hwl hpl gp)) <| oA (oLw (n := 89) ((jB mx) :: (ints .u8 (wrB w p p.length))) lnO) <| oSw (n := 89) ((jB mx) :: (ints .u8 (wrB w p p.length))) ((jB false) :: (ints .u8 (List.replicate 88 0))) 96 lnO lnO)
      (oA (oLw (n := 89) ((jB mx) :: (ints .u8 (wrB w p p.length))) lnO) <| oA (oS (show jT [jA ((jB mx) :: (ints .u8 (wrB w p p.length))), jB true] = jT [jA ((jB mx) :: (ints .u8 (digs 88 (wrV w p)))), jB true] from by rw [e1])) <| oS (show Avoid (fun n => decide (0 ≤ n)) (jT [jA ((jB mx) :: (ints .u8 (digs 88 (wrV w p)))), jB true]) from Avoid.tuple (AvoidL.cons (Avoid.agg (AvoidL.cons (Avoid.bool _ _) (AvoidL.ints _ _ _))) (AvoidL.cons (Avoid.bool _ _) (AvoidL.nil _))))) (by kernel_rfl)
  · exact meets_run (fn := Tryz.f95) 4 (q1 ++ [rG [(1, {call := some ⟨[], [jS b, jS [46]], [], jT [jS (if 0 ≤ idx46 b then b.take (idx46 b).toNat else b), jS (if 0 ≤ idx46 b then b.drop ((idx46 b).toNat + 1) else []), jB (decide (0 ≤ idx46 b))], []⟩, val := some (jT [jS w, jS p, jB false])})], rG [hhMB 1 (areDigits_meets w (by omega)) true, hhB 2 false], rG [hhV 1 (jA ((jB mx) :: (ints .u8 (List.replicate 88 0)))), (2, {nm := [1], obj := some [jC ((jB false) :: (ints .u8 (List.replicate 88 0))) 96]}), (3, {obj := some [jC ((jB mx) :: (ints .u8 (List.replicate 88 0))) 96]})], rG [hhN 1 2], .loop (⟨([none, none, sP 0 0, none, none, none, some (jS w), some (jS p), none, sP 1 0, none, none, none, none, none, none, none, none, none, none, none, none, none, none, none, none, none, none, none, none, none, none, none, none, none, none, none, none, none, none, some (AV.vec 2 w.length), sI ((w.length : Nat) : Int), sI 0] ++ nn 30), [some (jC ((jB false) :: (ints .u8 (List.replicate 88 0))) 96), some (jC ((jB mx) :: (ints .u8 (wrA w 0))) 96), some (AObj.vec (u8s w) 5 1), none]⟩) (.exit 0) (⟨([none, none, sP 0 0, none, none, none, some (jS w), some (jS p), none, sP 1 0] ++ nn 63), [some (jC ((jB false) :: (ints .u8 (List.replicate 88 0))) 96), some (jC ((jB mx) :: (ints .u8 (wrA w w.length))) 96), some (AObj.vec (u8s w) 5 1), none]⟩), rG [hhN 1 3], .loop (⟨([none, none, sP 0 0, none, none, none, none, none, none, sP 1 0, none, none, none, none, none, none, none, none, none, none, none, none, none, none, none, none, none, none, none, none, none, none, none, none, none, none, none, none, none, none, none, none, none, none, none, none, none, none, none, none, none, none, none, none, none, none, none, none, some (AV.vec 3 p.length), sI ((p.length : Nat) : Int), sI 0] ++ nn 12), [some (jC ((jB false) :: (ints .u8 (List.replicate 88 0))) 96), some (jC ((jB mx) :: (ints .u8 (wrB w p 0))) 96), some (AObj.vec (u8s w) 5 1), some (AObj.vec (u8s p) 5 1)]⟩) (.exit 2) (⟨([none, none, sP 0 0, none, none, none, none, none, none, sP 1 0] ++ nn 63), [some (jC ((jB false) :: (ints .u8 (List.replicate 88 0))) 96), some (jC ((jB mx) :: (ints .u8 (wrB w p p.length))) 96), some (AObj.vec (u8s w) 5 1), some (AObj.vec (u8s p) 5 1)]⟩), rG [hhV 0 (jA ((jB mx) :: (ints .u8 (wrB w p p.length)))), (1, {obj := some [jC ((jB mx) :: (ints .u8 (wrB w p p.length))) 96]})]]) [{val := some (jA ((jB mx) :: (ints .u8 (wrB w p p.length))))}, {}] Tryz.func95 (by kernel_rfl) Tryz.call95
      (oA o1 <| oA (oC (cut_meets b hbl) rfl) <| oA (oS (show AV.ren [] (jT [jS (if 0 ≤ idx46 b then b.take (idx46 b).toNat else b), jS (if 0 ≤ idx46 b then b.drop ((idx46 b).toNat + 1) else []), jB (decide (0 ≤ idx46 b))]) = jT [jS w, jS p, jB false] from (by rw [show decide (0 ≤ idx46 b) = false by rw [hpt]; simpa using c1, ← hw, ← hp]; rfl))) <| oA (oC (areDigits_meets w (by omega)) rfl) <| oA (oS (boolT h1)) <| oA (oS (show AV.bool (!true) = jB false from rfl)) <| oA (oS (show ([jB mx] : List AV).length = 1 from rfl)) <| oA (oS (show 0 + 1 ≤ ((zeroCellsA Tryz.prog 96) : List AV).length from Nat.le_of_ble_eq_true (by kernel_rfl))) <| oA (oS (show AV.agg (List.take 0 (zeroCellsA Tryz.prog 96) ++ [jB mx] ++ List.drop 1 (zeroCellsA Tryz.prog 96)) = jA ((jB mx) :: (ints .u8 (List.replicate 88 0))) from by kernel_rfl)) <| oA (oS (show AObj.cells (zeroCellsA Tryz.prog 96) 96 = jC ((jB false) :: (ints .u8 (List.replicate 88 0))) 96 from by kernel_rfl)) <| oA (oSw (n := 89) ((jB mx) :: (ints .u8 (List.replicate 88 0))) ((jB false) :: (ints .u8 (List.replicate 88 0))) 96 lnO lnO) <| oA (oR [jP 0 0, jS w, jS p, jP 1 0, AV.vec 2 w.length, jI ((w.length : Nat) : Int), jI 0]) <| oA (oQ [jC ((jB false) :: (ints .u8 (List.replicate 88 0))) 96]) <| oA (oS (show jC ((jB mx) :: (ints .u8 (List.replicate 88 0))) 96 = jC ((jB mx) :: (ints .u8 (wrA w 0))) 96 from by rw [wrA_zero w hwl])) <| oA (oQ [AObj.vec (u8s w) 5 1]) <| oA (oS (show Tri Tryz.prog (.loop (loopN (bodyOf Tryz.f95) 0)) (⟨([none, none, sP 0 0, none, none, none, some (jS w), some (jS p), none, sP 1 0, none, none, none, none, none, none, none, none, none, none, none, none, none, none, none, none, none, none, none, none, none, none, none, none, none, none, none, none, none, none, some (AV.vec 2 w.length), sI ((w.length : Nat) : Int), sI 0] ++ nn 30), [some (jC ((jB false) :: (ints .u8 (List.replicate 88 0))) 96), some (jC ((jB mx) :: (ints .u8 (wrA w 0))) 96), some (AObj.vec (u8s w) 5 1), none]⟩) (.exit 0) (⟨([none, none, sP 0 0, none, none, none, some (jS w), some (jS p), none, sP 1 0] ++ nn 63), [some (jC ((jB false) :: (ints .u8 (List.replicate 88 0))) 96), some (jC ((jB mx) :: (ints .u8 (wrA w w.length))) 96), some (AObj.vec (u8s w) 5 1), none]⟩) from wr_l1 mx w p hwl gw)) <| oA (oR [jP 0 0, jP 1 0, AV.vec 3 p.length, jI ((p.length : Nat) : Int), jI 0]) <| oA (oQ [jC ((jB false) :: (ints .u8 (List.replicate 88 0))) 96]) <| oA (oS (show jC ((jB mx) :: (ints .u8 (wrA w w.length))) 96 = jC ((jB mx) :: (ints .u8 (wrB w p 0))) 96 from by rw [wrA_end w p])) <| oA (oQ [AObj.vec (u8s w) 5 1, AObj.vec (u8s p) 5 1]) <| oA (oS (show Tri Tryz.prog (.loop (loopN (bodyOf Tryz.f95) 1)) (⟨([none, none, sP 0 0, none, none, none, none, none, none, sP 1 0, none, none, none, none, none, none, none, none, none, none, none, none, none, none, none, none, none, none, none, none, none, none, none, none, none, none, none, none, none, none, none, none, none, none, none, none, none, none, none, none, none, none, none, none, none, none, none, none, some (AV.vec 3 p.length), sI ((p.length : Nat) : Int), sI 0] ++ nn 12), [some (jC ((jB false) :: (ints .u8 (List.replicate 88 0))) 96), some (jC ((jB mx) :: (ints .u8 (wrB w p 0))) 96), some (AObj.vec (u8s w) 5 1), some (AObj.vec (u8s p) 5 1)]⟩) (.exit 2) (⟨([none, none, sP 0 0, none, none, none, none, none, none, sP 1 0] ++ nn 63), [some (jC ((jB false) :: (ints .u8 (List.replicate 88 0))) 96), some (jC ((jB mx) :: (ints .u8 (wrB w p p.length))) 96), some (AObj.vec (u8s w) 5 1), some (AObj.vec (u8s p) 5 1)]⟩) from wr_l2 mx w p hwl hpl gp)) <| oA (oLw (n := 89) ((jB mx) :: (ints .u8 (wrB w p p.length))) lnO) <| oSw (n := 89) ((jB mx) :: (ints .u8 (wrB w p p.length))) ((jB false) :: (ints .u8 (List.replicate 88 0))) 96 lnO lnO)
      (oA (oLw (n := 89) ((jB mx) :: (ints .u8 (wrB w p p.length))) lnO) <| oA (oS (show jT [jA ((jB mx) :: (ints .u8 (wrB w p p.length))), jB true] = jT [jA ((jB mx) :: (ints .u8 (digs 88 (wrV w p)))), jB true] from by rw [e1])) <| oS (show Avoid (fun n => decide (0 ≤ n)) (jT [jA ((jB mx) :: (ints .u8 (digs 88 (wrV w p)))), jB true]) from Avoid.tuple (AvoidL.cons (Avoid.agg (AvoidL.cons (Avoid.bool _ _) (AvoidL.ints _ _ _))) (AvoidL.cons (Avoid.bool _ _) (AvoidL.nil _))))) (by kernel_rfl)

theorem written_bad (s b w p : List UInt8) (mx pt : Bool) (hs : s.length < 1000000) (hbl : b.length < 1000000) (hwn : w.length < 1000000) (hpn : p.length < 1000000) (hmx : minusB s = mx) (hb : bodyS s = b) (hw : wholeS b = w) (hp : partS b = p) (hpt : decide (0 ≤ idx46 b) = pt) (hpe : pt = false → p = []) (h : ¬ (isDigs w = true ∧ (pt = true → isDigs p = true))) : Meets Tryz.prog 95 [jS s] [] (jT [jA ((jB false) :: (ints .u8 (List.replicate 88 0))), jB false]) [] := by
  have o1 := oA (oS (show AObj.cells (zeroCellsA Tryz.prog 96) 96 = jC ((jB false) :: (ints .u8 (List.replicate 88 0))) 96 from by kernel_rfl)) <| oA (oC (cutPrefix_meets s) rfl) <| oS (show AV.ren [] (jT [jS (if minusB s = true then s.drop 1 else s), jB (minusB s)]) = jT [jS b, jB mx] from (by rw [← hb, ← hmx]; rfl))
  let q1 : List Orc := [rG [(0, {nm := [0], obj := some [jC ((jB false) :: (ints .u8 (List.replicate 88 0))) 96]})], rG [(1, {call := some ⟨[], [jS s, jS [45]], [], jT [jS (if minusB s = true then s.drop 1 else s), jB (minusB s)], []⟩, val := some (jT [jS b, jB mx])})]]
  by_cases c1 : pt = true
  · have o2 := oA (oC (cut_meets b hbl) rfl) <| oA (oS (show AV.ren [] (jT [jS (if 0 ≤ idx46 b then b.take (idx46 b).toNat else b), jS (if 0 ≤ idx46 b then b.drop ((idx46 b).toNat + 1) else []), jB (decide (0 ≤ idx46 b))]) = jT [jS w, jS p, jB true] from (by rw [show decide (0 ≤ idx46 b) = true by rw [hpt]; simpa using c1, ← hw, ← hp]; rfl))) <| oC (areDigits_meets w (by omega)) rfl
    let q2 : List Orc := [rG [(1, {call := some ⟨[], [jS b, jS [46]], [], jT [jS (if 0 ≤ idx46 b then b.take (idx46 b).toNat else b), jS (if 0 ≤ idx46 b then b.drop ((idx46 b).toNat + 1) else []), jB (decide (0 ≤ idx46 b))], []⟩, val := some (jT [jS w, jS p, jB true])})]]
    by_cases c2 : isDigs w = true
    · have o3 := oA (oS (boolT c2)) <| oA (oS (show AV.bool (!true) = jB false from rfl)) <| oC (areDigits_meets p (by omega)) rfl
      by_cases c3 : isDigs p = true
      · exact absurd ⟨‹_›, fun _ => ‹_›⟩ h
      · exact meets_run (fn := Tryz.f95) 4 (q1 ++ (q2 ++ [rG [hhMB 1 (areDigits_meets w (by omega)) true, hhB 2 false, hhMB 7 (areDigits_meets p (by omega)) false, hhB 8 true], rG [hhV 0 (jA ((jB false) :: (ints .u8 (List.replicate 88 0)))), (1, {obj := some [jC ((jB false) :: (ints .u8 (List.replicate 88 0))) 96]})]])) [{val := some (jA ((jB false) :: (ints .u8 (List.replicate 88 0))))}, {}] Tryz.func95 (by kernel_rfl) Tryz.call95
          (oA o1 <| oA o2 <| oA o3 <| oA (oS (boolF c3)) <| oA (oS (show AV.bool (!false) = jB true from rfl)) <| oA (oS (show AV.agg (zeroCellsA Tryz.prog 96) = jA ((jB false) :: (ints .u8 (List.replicate 88 0))) from by kernel_rfl)) <| oSw (n := 89) ((jB false) :: (ints .u8 (List.replicate 88 0))) ((jB false) :: (ints .u8 (List.replicate 88 0))) 96 lnO lnO)
          (oA (oLw (n := 89) ((jB false) :: (ints .u8 (List.replicate 88 0))) lnO) <| oA (oS (@rfl _ (jT [jA ((jB false) :: (ints .u8 (List.replicate 88 0))), jB false]))) <| oS (show Avoid (fun n => decide (0 ≤ n)) (jT [jA ((jB false) :: (ints .u8 (List.replicate 88 0))), jB false]) from Avoid.tuple (AvoidL.cons (Avoid.agg (AvoidL.cons (Avoid.bool _ _) (AvoidL.ints _ _ _))) (AvoidL.cons (Avoid.bool _ _) (AvoidL.nil _))))) (by kernel_rfl)
    · exact meets_run (fn := Tryz.f95) 4 (q1 ++ (q2 ++ [rG [hhMB 1 (areDigits_meets w (by omega)) false, hhB 2 true], rG [hhV 0 (jA ((jB false) :: (ints .u8 (List.replicate 88 0)))), (1, {obj := some [jC ((jB false) :: (ints .u8 (List.replicate 88 0))) 96]})]])) [{val := some (jA ((jB false) :: (ints .u8 (List.replicate 88 0))))}, {}] Tryz.func95 (by kernel_rfl) Tryz.call95
        (oA o1 <| oA o2 <| oA (oS (boolF c2)) <| oA (oS (show AV.bool (!false) = jB true from rfl)) <| oA (oS (show AV.agg (zeroCellsA Tryz.prog 96) = jA ((jB false) :: (ints .u8 (List.replicate 88 0))) from by kernel_rfl)) <| oSw (n := 89) ((jB false) :: (ints .u8 (List.replicate 88 0))) ((jB false) :: (ints .u8 (List.replicate 88 0))) 96 lnO lnO)
        (oA (oLw (n := 89) ((jB false) :: (ints .u8 (List.replicate 88 0))) lnO) <| oA (oS (@rfl _ (jT [jA ((jB false) :: (ints .u8 (List.replicate 88 0))), jB false]))) <| oS (show Avoid (fun n => decide (0 ≤ n)) (jT [jA ((jB false) :: (ints .u8 (List.replicate 88 0))), jB false]) from Avoid.tuple (AvoidL.cons (Avoid.agg (AvoidL.cons (Avoid.bool _ _) (AvoidL.ints _ _ _))) (AvoidL.cons (Avoid.bool _ _) (AvoidL.nil _))))) (by kernel_rfl)
  · have o2 := oA (oC (cut_meets b hbl) rfl) <| oA (oS (show AV.ren [] (jT [jS (if 0 ≤ idx46 b then b.take (idx46 b).toNat else b), jS (if 0 ≤ idx46 b then b.drop ((idx46 b).toNat + 1) else []), jB (decide (0 ≤ idx46 b))]) = jT [jS w, jS p, jB false] from (by rw [show decide (0 ≤ idx46 b) = false by rw [hpt]; simpa using c1, ← hw, ← hp]; rfl))) <| oC (areDigits_meets w (by omega)) rfl
    let q2 : List Orc := [rG [(1, {call := some ⟨[], [jS b, jS [46]], [], jT [jS (if 0 ≤ idx46 b then b.take (idx46 b).toNat else b), jS (if 0 ≤ idx46 b then b.drop ((idx46 b).toNat + 1) else []), jB (decide (0 ≤ idx46 b))], []⟩, val := some (jT [jS w, jS p, jB false])})]]
    by_cases c2 : isDigs w = true
    · exact absurd ⟨‹_›, fun g => absurd g ‹_›⟩ h
    · exact meets_run (fn := Tryz.f95) 4 (q1 ++ (q2 ++ [rG [hhMB 1 (areDigits_meets w (by omega)) false, hhB 2 true], rG [hhV 0 (jA ((jB false) :: (ints .u8 (List.replicate 88 0)))), (1, {obj := some [jC ((jB false) :: (ints .u8 (List.replicate 88 0))) 96]})]])) [{val := some (jA ((jB false) :: (ints .u8 (List.replicate 88 0))))}, {}] Tryz.func95 (by kernel_rfl) Tryz.call95
        (oA o1 <| oA o2 <| oA (oS (boolF c2)) <| oA (oS (show AV.bool (!false) = jB true from rfl)) <| oA (oS (show AV.agg (zeroCellsA Tryz.prog 96) = jA ((jB false) :: (ints .u8 (List.replicate 88 0))) from by kernel_rfl)) <| oSw (n := 89) ((jB false) :: (ints .u8 (List.replicate 88 0))) ((jB false) :: (ints .u8 (List.replicate 88 0))) 96 lnO lnO)
        (oA (oLw (n := 89) ((jB false) :: (ints .u8 (List.replicate 88 0))) lnO) <| oA (oS (@rfl _ (jT [jA ((jB false) :: (ints .u8 (List.replicate 88 0))), jB false]))) <| oS (show Avoid (fun n => decide (0 ≤ n)) (jT [jA ((jB false) :: (ints .u8 (List.replicate 88 0))), jB false]) from Avoid.tuple (AvoidL.cons (Avoid.agg (AvoidL.cons (Avoid.bool _ _) (AvoidL.ints _ _ _))) (AvoidL.cons (Avoid.bool _ _) (AvoidL.nil _))))) (by kernel_rfl)

theorem bodyS_len (s : List UInt8) : (bodyS s).length ≤ s.length := by unfold bodyS; split <;> simp
theorem wholeS_len (s : List UInt8) : (wholeS s).length ≤ s.length := by unfold wholeS; split <;> simp <;> omega
theorem partS_len (s : List UInt8) : (partS s).length ≤ s.length := by unfold partS; split <;> simp
theorem partS_none {s : List UInt8} (h : decide (0 ≤ idx46 s) = false) : partS s = [] := by
  unfold partS; rw [if_neg (by simpa using h)]
theorem okW_spec (s : List UInt8) : okW s = true ↔ isDigs (wholeS (bodyS s)) = true ∧ (decide (0 ≤ idx46 (bodyS s)) = true → isDigs (partS (bodyS s)) = true) := by
  unfold okW
  cases isDigs (wholeS (bodyS s)) <;> cases decide (0 ≤ idx46 (bodyS s)) <;> cases isDigs (partS (bodyS s)) <;> simp
theorem written_yes (s : List UInt8) (hs : s.length < 1000000) (h : okW s = true) : Meets Tryz.prog 95 [AV.str s] [] (AV.tuple [AV.agg (AV.bool (minusB s) :: ints .u8 (digs 88 (wrS s))), AV.bool true]) [] := by
  have h1 := bodyS_len s
  have h2 := wholeS_len (bodyS s)
  have h3 := partS_len (bodyS s)
  have hk := (okW_spec s).1 h
  exact written_ok s _ _ _ _ _ hs (by omega) (by omega) (by omega) rfl rfl rfl rfl rfl partS_none hk.1 hk.2
theorem written_no (s : List UInt8) (hs : s.length < 1000000) (h : ¬ okW s = true) : Meets Tryz.prog 95 [AV.str s] [] (AV.tuple [AV.agg (AV.bool false :: ints .u8 (List.replicate 88 0)), AV.bool false]) [] := by
  have h1 := bodyS_len s
  have h2 := wholeS_len (bodyS s)
  have h3 := partS_len (bodyS s)
  exact written_bad s _ _ _ _ _ hs (by omega) (by omega) (by omega) rfl rfl rfl rfl rfl partS_none (fun g => h ((okW_spec s).2 g))

end Go.Proofs.YtdomenmfkbfakaaGreatDoor.Dq


set_option linter.unusedVariables false
set_option linter.unusedSimpArgs false
set_option maxRecDepth 20000
namespace Go.Proofs.YtdomenmfkbfakaaGreatDoor.Dq
open Go Sx Dc

theorem trimD_bounds : ∀ (n : Nat) (m e : Int), ((trimD n m e).1.natAbs ≤ m.natAbs) ∧ e ≤ (trimD n m e).2 ∧ (trimD n m e).2 ≤ e + n
  | 0, m, e => by simp [trimD]
  | n + 1, m, e => by
    rw [trimD]
    split
    · have ih := trimD_bounds n (m.tdiv 10) (e + 1)
      have h : (m.tdiv 10).natAbs ≤ m.natAbs := by rw [Int.natAbs_tdiv]; exact Nat.div_le_self _ _
      omega
    · simp only []; omega
theorem trimmedS_bounds {m e : Int} (he : -9 ≤ e ∧ e ≤ 9) : (trimmedS m e).1.natAbs ≤ m.natAbs ∧ -9 ≤ (trimmedS m e).2 ∧ (trimmedS m e).2 ≤ 9 := by
  unfold trimmedS
  split
  · simp
  · have := trimD_bounds (9 - e).toNat m e
    omega
theorem nearGo_bounds {ds : List Int} (hd : Dig ds) : ∀ (f j : Nat) (N e : Int), f + j = 19 → nearGo ds f j = some (N, e) → 0 ≤ N ∧ N ≤ 999999999999999 ∧ -9 ≤ e ∧ e ≤ 9
  | 0, j, N, e, _, h => by cases h
  | f + 1, j, N, e, hj, h => by
    rw [nearGo] at h
    split at h
    · rename_i hc
      simp only [Option.some.injEq, Prod.mk.injEq] at h
      obtain ⟨rfl, rfl⟩ := h
      have h1 := evenN_ge ds (57 - j)
      have h2 := (val_bounds _ (hd.take (57 - j))).1
      omega
    · exact nearGo_bounds hd f (j + 1) N e (by omega) h
theorem nearM_bounds {ds : List Int} (hd : Dig ds) (mx : Bool) : (-1000000000000000 < (nearM mx ds).1 ∧ (nearM mx ds).1 < 1000000000000000) ∧ -9 ≤ (nearM mx ds).2 ∧ (nearM mx ds).2 ≤ 9 := by
  unfold nearM
  cases h : nearGo ds 19 0 with
  | none => simp
  | some p =>
    obtain ⟨N, e⟩ := p
    have hb := nearGo_bounds hd 19 0 N e rfl h
    have ht := trimmedS_bounds (m := if mx = true then -N else N) (e := e) ⟨hb.2.2.1, hb.2.2.2⟩
    have : (if mx = true then -N else N).natAbs = N.natAbs := by split <;> omega
    simp only
    omega
abbrev bad3 : Int × Int × Int := (0, 0, 10)
def aV (m e : Int) : Int := ((m.natAbs : Nat) : Int) * 10 ^ (e + 40).toNat
theorem digs_aV (m e : Int) : digs 88 (((m.natAbs : Nat) : Int) * 10 ^ (e + 40).toNat) = digs 88 (aV m e) := rfl
end Go.Proofs.YtdomenmfkbfakaaGreatDoor.Dq


set_option linter.unusedVariables false
set_option linter.unusedSimpArgs false
set_option maxRecDepth 20000
namespace Go.Proofs.YtdomenmfkbfakaaGreatDoor.Dq
open Go Sx Dc

/-- What is read of a text. -/
def readR (s : List UInt8) : Int × Int × Int :=
  if okW s = true then
    (if nearE (digs 88 (wrS s)) = 0 ∧ digs 88 (aV (nearM (minusB s) (digs 88 (wrS s))).1 (nearM (minusB s) (digs 88 (wrS s))).2) = digs 88 (wrS s) then ((nearM (minusB s) (digs 88 (wrS s))).1, (nearM (minusB s) (digs 88 (wrS s))).2, 0) else bad3)
  else (0, 0, 12)

theorem read_meets (s : List UInt8) (hs : s.length < 1000000) : Meets Tryz.prog 44 [jS s] [] (jT [jA [jI ((readR s).1), jI ((readR s).2.1)], jI ((readR s).2.2)]) [] := by
  have hnb := nearM_bounds (digs_dig 88 (wrS s)) (minusB s)
  let q1 : List Orc := [rG [hhN 0 0]]
  by_cases c1 : okW s = true
  · have o1 := oA (oC (written_yes s hs c1) rfl) <| oA (oS (show AV.ren [] (jT [jA ((jB (minusB s)) :: (ints .u8 (digs 88 (wrS s)))), jB true]) = jT [jA ((jB (minusB s)) :: (ints .u8 (digs 88 (wrS s)))), jB true] from by simp only [renL, AV.ren, renL_ints, renL_u8s, renL_append])) <| oA (oS (show AObj.cells (zeroCellsA Tryz.prog 96) 96 = jC ((jB false) :: (ints .u8 (List.replicate 88 0))) 96 from by kernel_rfl)) <| oA (oSw (n := 89) ((jB (minusB s)) :: (ints .u8 (digs 88 (wrS s)))) ((jB false) :: (ints .u8 (List.replicate 88 0))) 96 lnO lnO) <| oA (oS (show AV.bool (!true) = jB false from rfl)) <| oA (oLw (n := 89) ((jB (minusB s)) :: (ints .u8 (digs 88 (wrS s)))) lnO) <| oA (oS (show [jA ((jB (minusB s)) :: (ints .u8 (digs 88 (wrS s))))] = renL [] [jA ((jB (minusB s)) :: (ints .u8 (digs 88 (wrS s))))] from by simp only [renL, AV.ren, renL_ints, renL_u8s, renL_append])) <| oA (oS (show Meets Tryz.prog 96 [jA ((jB (minusB s)) :: (ints .u8 (digs 88 (wrS s))))] [] (jT [jA [jI ((nearM (minusB s) (digs 88 (wrS s))).1), jI ((nearM (minusB s) (digs 88 (wrS s))).2)], jI (nearE (digs 88 (wrS s)))]) [] from nearest_meets _ _ (digs_length _ _) (digs_dig _ _))) <| oSw ([jI ((nearM (minusB s) (digs 88 (wrS s))).1), jI ((nearM (minusB s) (digs 88 (wrS s))).2)]) ([jI 0, jI 0]) 23 (rfl) (rfl)
    let q2 : List Orc := [rG [(1, {call := some ⟨[], [jS s], [], jT [jA ((jB (minusB s)) :: (ints .u8 (digs 88 (wrS s)))), jB true], []⟩, val := some (jT [jA ((jB (minusB s)) :: (ints .u8 (digs 88 (wrS s)))), jB true])}), (5, {nm := [1], obj := some [jC ((jB false) :: (ints .u8 (List.replicate 88 0))) 96]}), (6, {obj := some [jC ((jB (minusB s)) :: (ints .u8 (digs 88 (wrS s)))) 96]})], rG [hhB 1 false], rG [hhV 0 (jA ((jB (minusB s)) :: (ints .u8 (digs 88 (wrS s))))), (1, {call := some ⟨[], [jA ((jB (minusB s)) :: (ints .u8 (digs 88 (wrS s))))], [], jT [jA [jI ((nearM (minusB s) (digs 88 (wrS s))).1), jI ((nearM (minusB s) (digs 88 (wrS s))).2)], jI (nearE (digs 88 (wrS s)))], []⟩}), hhN 5 2, (6, {obj := some [jC [jI ((nearM (minusB s) (digs 88 (wrS s))).1), jI ((nearM (minusB s) (digs 88 (wrS s))).2)] 23]})]]
    by_cases c2 : (nearE (digs 88 (wrS s))) = 0
    · by_cases c3 : digs 88 (aV ((nearM (minusB s) (digs 88 (wrS s))).1) ((nearM (minusB s) (digs 88 (wrS s))).2)) = digs 88 (wrS s)
      · exact meets_run (fn := Tryz.f44) 3 (q1 ++ (q2 ++ [rG [hhB 1 false, hhV 3 (jA [jI ((nearM (minusB s) (digs 88 (wrS s))).1), jI ((nearM (minusB s) (digs 88 (wrS s))).2)]), (4, {call := some ⟨[], [jA [jI ((nearM (minusB s) (digs 88 (wrS s))).1), jI ((nearM (minusB s) (digs 88 (wrS s))).2)]], [], jA ((jB (decide ((nearM (minusB s) (digs 88 (wrS s))).1 < 0))) :: (ints .u8 (digs 88 (aV ((nearM (minusB s) (digs 88 (wrS s))).1) ((nearM (minusB s) (digs 88 (wrS s))).2))))), []⟩, val := some (jA ((jB (decide ((nearM (minusB s) (digs 88 (wrS s))).1 < 0))) :: (ints .u8 (digs 88 (aV ((nearM (minusB s) (digs 88 (wrS s))).1) ((nearM (minusB s) (digs 88 (wrS s))).2))))))}), hhV 5 (jA (ints .u8 (digs 88 (aV ((nearM (minusB s) (digs 88 (wrS s))).1) ((nearM (minusB s) (digs 88 (wrS s))).2))))), hhV 7 (jA (ints .u8 (digs 88 (wrS s)))), (8, {nm := [0], val := some (AV.bool true)})], rG [hhV 0 (jA [jI ((nearM (minusB s) (digs 88 (wrS s))).1), jI ((nearM (minusB s) (digs 88 (wrS s))).2)]), (1, {obj := some [jC [jI ((nearM (minusB s) (digs 88 (wrS s))).1), jI ((nearM (minusB s) (digs 88 (wrS s))).2)] 23]})]])) [{val := some (jA [jI ((nearM (minusB s) (digs 88 (wrS s))).1), jI ((nearM (minusB s) (digs 88 (wrS s))).2)])}, {}] Tryz.func44 (by kernel_rfl) Tryz.call44
          (oA o1 <| oA (oS (neF c2)) <| oA (oLw ([jI ((nearM (minusB s) (digs 88 (wrS s))).1), jI ((nearM (minusB s) (digs 88 (wrS s))).2)]) (rfl)) <| oA (oC (show Meets Tryz.prog 78 [jA [jI ((nearM (minusB s) (digs 88 (wrS s))).1), jI ((nearM (minusB s) (digs 88 (wrS s))).2)]] [] (jA ((jB (decide ((nearM (minusB s) (digs 88 (wrS s))).1 < 0))) :: (ints .u8 (digs 88 (aV ((nearM (minusB s) (digs 88 (wrS s))).1) ((nearM (minusB s) (digs 88 (wrS s))).2)))))) [] from lay_meets _ _ _ hnb.1 (by omega) (digs_aV _ _)) rfl) <| oA (oS (show AV.ren [] (jA ((jB (decide ((nearM (minusB s) (digs 88 (wrS s))).1 < 0))) :: (ints .u8 (digs 88 (aV ((nearM (minusB s) (digs 88 (wrS s))).1) ((nearM (minusB s) (digs 88 (wrS s))).2)))))) = jA ((jB (decide ((nearM (minusB s) (digs 88 (wrS s))).1 < 0))) :: (ints .u8 (digs 88 (aV ((nearM (minusB s) (digs 88 (wrS s))).1) ((nearM (minusB s) (digs 88 (wrS s))).2))))) from by simp only [renL, AV.ren, renL_ints, renL_u8s, renL_append])) <| oA (oS (show 1 + 88 ≤ List.length ((jB (decide ((nearM (minusB s) (digs 88 (wrS s))).1 < 0))) :: (ints .u8 (digs 88 (aV ((nearM (minusB s) (digs 88 (wrS s))).1) ((nearM (minusB s) (digs 88 (wrS s))).2))))) from lnO)) <| oA (oS (show AV.agg (List.take 88 (List.drop 1 ((jB (decide ((nearM (minusB s) (digs 88 (wrS s))).1 < 0))) :: (ints .u8 (digs 88 (aV ((nearM (minusB s) (digs 88 (wrS s))).1) ((nearM (minusB s) (digs 88 (wrS s))).2))))))) = jA (ints .u8 (digs 88 (aV ((nearM (minusB s) (digs 88 (wrS s))).1) ((nearM (minusB s) (digs 88 (wrS s))).2)))) from congrArg AV.agg (part_at [jB (decide ((nearM (minusB s) (digs 88 (wrS s))).1 < 0))] rfl (by simp only [List.length_cons, List.length_nil, List.length_append, ints_length, u8s_length, List.length_replicate, List.length_set, List.length_map, digs_length])))) <| oA (oS (show 0 ≤ 1 from Nat.zero_le _)) <| oA (oS (show 1 - 0 + 88 ≤ List.length ((jB (minusB s)) :: (ints .u8 (digs 88 (wrS s)))) from lnO)) <| oA (oS (show List.take 88 (List.drop (1 - 0) ((jB (minusB s)) :: (ints .u8 (digs 88 (wrS s))))) = ints .u8 (digs 88 (wrS s)) from part_at [jB (minusB s)] rfl (by simp only [List.length_cons, List.length_nil, List.length_append, ints_length, u8s_length, List.length_replicate, List.length_set, List.length_map, digs_length]))) <| oA (oS (show EqR Tryz.prog 94 (jA (ints .u8 (digs 88 (aV ((nearM (minusB s) (digs 88 (wrS s))).1) ((nearM (minusB s) (digs 88 (wrS s))).2))))) (jA (ints .u8 (digs 88 (wrS s)))) true from (eqR_ints (n := 88) (e := 5) (by kernel_rfl) (k' := .u8) (by kernel_rfl) (by kernel_rfl) (digs 88 (aV ((nearM (minusB s) (digs 88 (wrS s))).1) ((nearM (minusB s) (digs 88 (wrS s))).2))) (digs 88 (wrS s)) (by simp only [List.length_cons, List.length_nil, List.length_append, ints_length, u8s_length, List.length_replicate, List.length_set, List.length_map, digs_length]) (by simp only [List.length_cons, List.length_nil, List.length_append, ints_length, u8s_length, List.length_replicate, List.length_set, List.length_map, digs_length])).to (decide_eq_true c3))) <| oA (oLw ([jI ((nearM (minusB s) (digs 88 (wrS s))).1), jI ((nearM (minusB s) (digs 88 (wrS s))).2)]) (rfl)) <| oSw ([jI ((nearM (minusB s) (digs 88 (wrS s))).1), jI ((nearM (minusB s) (digs 88 (wrS s))).2)]) ([jI 0, jI 0]) 23 (rfl) (rfl))
          (oA (oLw ([jI ((nearM (minusB s) (digs 88 (wrS s))).1), jI ((nearM (minusB s) (digs 88 (wrS s))).2)]) (rfl)) <| oA (oS (show jT [jA [jI ((nearM (minusB s) (digs 88 (wrS s))).1), jI ((nearM (minusB s) (digs 88 (wrS s))).2)], jI 0] = jT [jA [jI ((readR s).1), jI ((readR s).2.1)], jI ((readR s).2.2)] from by simp [readR, bad3, *])) <| oV (D := (fun n => decide (0 ≤ n))) (jT [jA [jI ((readR s).1), jI ((readR s).2.1)], jI ((readR s).2.2)]) rfl) (by kernel_rfl)
      · exact meets_run (fn := Tryz.f44) 3 (q1 ++ (q2 ++ [rG [hhB 1 false, hhV 3 (jA [jI ((nearM (minusB s) (digs 88 (wrS s))).1), jI ((nearM (minusB s) (digs 88 (wrS s))).2)]), (4, {call := some ⟨[], [jA [jI ((nearM (minusB s) (digs 88 (wrS s))).1), jI ((nearM (minusB s) (digs 88 (wrS s))).2)]], [], jA ((jB (decide ((nearM (minusB s) (digs 88 (wrS s))).1 < 0))) :: (ints .u8 (digs 88 (aV ((nearM (minusB s) (digs 88 (wrS s))).1) ((nearM (minusB s) (digs 88 (wrS s))).2))))), []⟩, val := some (jA ((jB (decide ((nearM (minusB s) (digs 88 (wrS s))).1 < 0))) :: (ints .u8 (digs 88 (aV ((nearM (minusB s) (digs 88 (wrS s))).1) ((nearM (minusB s) (digs 88 (wrS s))).2))))))}), hhV 5 (jA (ints .u8 (digs 88 (aV ((nearM (minusB s) (digs 88 (wrS s))).1) ((nearM (minusB s) (digs 88 (wrS s))).2))))), hhV 7 (jA (ints .u8 (digs 88 (wrS s)))), (8, {nm := [0], val := some (AV.bool false)})], rG [(1, {obj := some [jC [jI 0, jI 0] 23]})]])) [{val := some (jA [jI 0, jI 0])}, {}] Tryz.func44 (by kernel_rfl) Tryz.call44
          (oA o1 <| oA (oS (neF c2)) <| oA (oLw ([jI ((nearM (minusB s) (digs 88 (wrS s))).1), jI ((nearM (minusB s) (digs 88 (wrS s))).2)]) (rfl)) <| oA (oC (show Meets Tryz.prog 78 [jA [jI ((nearM (minusB s) (digs 88 (wrS s))).1), jI ((nearM (minusB s) (digs 88 (wrS s))).2)]] [] (jA ((jB (decide ((nearM (minusB s) (digs 88 (wrS s))).1 < 0))) :: (ints .u8 (digs 88 (aV ((nearM (minusB s) (digs 88 (wrS s))).1) ((nearM (minusB s) (digs 88 (wrS s))).2)))))) [] from lay_meets _ _ _ hnb.1 (by omega) (digs_aV _ _)) rfl) <| oA (oS (show AV.ren [] (jA ((jB (decide ((nearM (minusB s) (digs 88 (wrS s))).1 < 0))) :: (ints .u8 (digs 88 (aV ((nearM (minusB s) (digs 88 (wrS s))).1) ((nearM (minusB s) (digs 88 (wrS s))).2)))))) = jA ((jB (decide ((nearM (minusB s) (digs 88 (wrS s))).1 < 0))) :: (ints .u8 (digs 88 (aV ((nearM (minusB s) (digs 88 (wrS s))).1) ((nearM (minusB s) (digs 88 (wrS s))).2))))) from by simp only [renL, AV.ren, renL_ints, renL_u8s, renL_append])) <| oA (oS (show 1 + 88 ≤ List.length ((jB (decide ((nearM (minusB s) (digs 88 (wrS s))).1 < 0))) :: (ints .u8 (digs 88 (aV ((nearM (minusB s) (digs 88 (wrS s))).1) ((nearM (minusB s) (digs 88 (wrS s))).2))))) from lnO)) <| oA (oS (show AV.agg (List.take 88 (List.drop 1 ((jB (decide ((nearM (minusB s) (digs 88 (wrS s))).1 < 0))) :: (ints .u8 (digs 88 (aV ((nearM (minusB s) (digs 88 (wrS s))).1) ((nearM (minusB s) (digs 88 (wrS s))).2))))))) = jA (ints .u8 (digs 88 (aV ((nearM (minusB s) (digs 88 (wrS s))).1) ((nearM (minusB s) (digs 88 (wrS s))).2)))) from congrArg AV.agg (part_at [jB (decide ((nearM (minusB s) (digs 88 (wrS s))).1 < 0))] rfl (by simp only [List.length_cons, List.length_nil, List.length_append, ints_length, u8s_length, List.length_replicate, List.length_set, List.length_map, digs_length])))) <| oA (oS (show 0 ≤ 1 from Nat.zero_le _)) <| oA (oS (show 1 - 0 + 88 ≤ List.length ((jB (minusB s)) :: (ints .u8 (digs 88 (wrS s)))) from lnO)) <| oA (oS (show List.take 88 (List.drop (1 - 0) ((jB (minusB s)) :: (ints .u8 (digs 88 (wrS s))))) = ints .u8 (digs 88 (wrS s)) from part_at [jB (minusB s)] rfl (by simp only [List.length_cons, List.length_nil, List.length_append, ints_length, u8s_length, List.length_replicate, List.length_set, List.length_map, digs_length]))) <| oA (oS (show EqR Tryz.prog 94 (jA (ints .u8 (digs 88 (aV ((nearM (minusB s) (digs 88 (wrS s))).1) ((nearM (minusB s) (digs 88 (wrS s))).2))))) (jA (ints .u8 (digs 88 (wrS s)))) false from (eqR_ints (n := 88) (e := 5) (by kernel_rfl) (k' := .u8) (by kernel_rfl) (by kernel_rfl) (digs 88 (aV ((nearM (minusB s) (digs 88 (wrS s))).1) ((nearM (minusB s) (digs 88 (wrS s))).2))) (digs 88 (wrS s)) (by simp only [List.length_cons, List.length_nil, List.length_append, ints_length, u8s_length, List.length_replicate, List.length_set, List.length_map, digs_length]) (by simp only [List.length_cons, List.length_nil, List.length_append, ints_length, u8s_length, List.length_replicate, List.length_set, List.length_map, digs_length])).to (decide_eq_false c3))) <| oSw ([jI 0, jI 0]) ([jI 0, jI 0]) 23 (rfl) (rfl))
          (oA (oLw ([jI 0, jI 0]) (rfl)) <| oA (oS (show jT [jA [jI 0, jI 0], jI 10] = jT [jA [jI ((readR s).1), jI ((readR s).2.1)], jI ((readR s).2.2)] from by simp [readR, bad3, *])) <| oV (D := (fun n => decide (0 ≤ n))) (jT [jA [jI ((readR s).1), jI ((readR s).2.1)], jI ((readR s).2.2)]) rfl) (by kernel_rfl)
    · exact meets_run (fn := Tryz.f44) 3 (q1 ++ (q2 ++ [rG [hhB 1 true], rG [(1, {obj := some [jC [jI 0, jI 0] 23]})]])) [{val := some (jA [jI 0, jI 0])}, {}] Tryz.func44 (by kernel_rfl) Tryz.call44
        (oA o1 <| oA (oS (neT c2)) <| oSw ([jI 0, jI 0]) ([jI 0, jI 0]) 23 (rfl) (rfl))
        (oA (oLw ([jI 0, jI 0]) (rfl)) <| oA (oS (show jT [jA [jI 0, jI 0], jI 10] = jT [jA [jI ((readR s).1), jI ((readR s).2.1)], jI ((readR s).2.2)] from by simp [readR, bad3, *])) <| oV (D := (fun n => decide (0 ≤ n))) (jT [jA [jI ((readR s).1), jI ((readR s).2.1)], jI ((readR s).2.2)]) rfl) (by kernel_rfl)
  · exact meets_run (fn := Tryz.f44) 3 (q1 ++ [rG [(1, {call := some ⟨[], [jS s], [], jT [jA ((jB false) :: (ints .u8 (List.replicate 88 0))), jB false], []⟩, val := some (jT [jA ((jB false) :: (ints .u8 (List.replicate 88 0))), jB false])}), (5, {nm := [1], obj := some [jC ((jB false) :: (ints .u8 (List.replicate 88 0))) 96]}), (6, {obj := some [jC ((jB false) :: (ints .u8 (List.replicate 88 0))) 96]})], rG [hhB 1 true], rG [(1, {obj := some [jC [jI 0, jI 0] 23]})]]) [{val := some (jA [jI 0, jI 0])}, {}] Tryz.func44 (by kernel_rfl) Tryz.call44
      (oA (oC (written_no s hs c1) rfl) <| oA (oS (show AV.ren [] (jT [jA ((jB false) :: (ints .u8 (List.replicate 88 0))), jB false]) = jT [jA ((jB false) :: (ints .u8 (List.replicate 88 0))), jB false] from by simp only [renL, AV.ren, renL_ints, renL_u8s, renL_append])) <| oA (oS (show AObj.cells (zeroCellsA Tryz.prog 96) 96 = jC ((jB false) :: (ints .u8 (List.replicate 88 0))) 96 from by kernel_rfl)) <| oA (oSw (n := 89) ((jB false) :: (ints .u8 (List.replicate 88 0))) ((jB false) :: (ints .u8 (List.replicate 88 0))) 96 lnO lnO) <| oA (oS (show AV.bool (!false) = jB true from rfl)) <| oSw ([jI 0, jI 0]) ([jI 0, jI 0]) 23 (rfl) (rfl))
      (oA (oLw ([jI 0, jI 0]) (rfl)) <| oA (oS (show jT [jA [jI 0, jI 0], jI 12] = jT [jA [jI ((readR s).1), jI ((readR s).2.1)], jI ((readR s).2.2)] from by simp [readR, bad3, *])) <| oV (D := (fun n => decide (0 ≤ n))) (jT [jA [jI ((readR s).1), jI ((readR s).2.1)], jI ((readR s).2.2)]) rfl) (by kernel_rfl)

end Go.Proofs.YtdomenmfkbfakaaGreatDoor.Dq

/- The evaluator, part P: a slice that grows may be told of its first rows alone. -/
set_option linter.unusedVariables false
set_option linter.unusedSimpArgs false
namespace Go.Proofs.YtdomenmfkbfakaaGreatDoor.Sx
open Go
variable {P : Program} {R : Type}
end Go.Proofs.YtdomenmfkbfakaaGreatDoor.Sx

/- The evaluator, part Q: a slice that a call has made, sealed; rows that grow as rows that are never written. -/
set_option linter.unusedVariables false
set_option linter.unusedSimpArgs false
namespace Go.Proofs.YtdomenmfkbfakaaGreatDoor.Sx
open Go
variable {P : Program}
theorem den_seal {E : Env} {nm len : Nat} {x : Value} (h : den E (.vec nm len) = some x) : den E (.dsl nm len) = some x := by
  simp only [den, Option.bind_eq_some_iff] at h ⊢
  obtain ⟨p, hp, hq⟩ := h
  split at hq
  · rename_i hc
    refine ⟨p, hp, ?_⟩
    rw [hc.1, if_neg (by simp), if_pos hc.2.2, hc.2.1]; exact hq
  · cases hq
/-- A slice that grows, handed back as one that is never written. -/
theorem meets_seal {f : FuncId} {args : List AV} {pre post : List AObj} {res res' : AV} {j : Nat} {cs : List AV} {t : TypeId} {sz : Nat} {o' : AObj} (h : Meets P f args pre res post) (hj : post[j]? = some (.vec cs t sz)) (hjp : pre.length ≤ j)
    (hres : ∀ E x, den E res = some x → den E res' = some x) (hfit : Fits (.vec cs t sz) o') (how : o'.owned = false) : Meets P f args pre res' (post.set j o') := by
  intro w E xs hxs hp
  refine (h w E xs hxs hp).mono ?_
  rintro e w' ⟨E', x, he, hd, hq⟩
  refine ⟨E', x, he, hres _ _ hd, ?_⟩
  have hjl : j < post.length := (List.getElem?_eq_some_iff.1 hj).1
  exact {
    le := hq.le
    cut := fun n hn => hq.cut n (by rw [List.length_set] at hn; exact hn)
    objs := fun n o hn => by
      rcases set_get hn with ⟨rfl, rfl⟩ | ⟨e, hn⟩
      · obtain ⟨b, c, hb, ho⟩ := hq.objs n _ hj
        exact ⟨b, c, hb, hfit _ _ _ _ ho⟩
      · exact hq.objs n o hn
    made := fun n b1 c1 o hn ho he ht => by
      have key : ∀ {p : AObj}, post[n]? = some p → touches b1 c1 p b1 → w.heap.size ≤ b1 ∨ ∃ (j' : Nat) (c' : Cap) (o : AObj), pre[j']? = some o ∧ o.owned = true ∧ (post.set j o')[j']? = some AObj.dead ∧ E j' = some (b1, c') := fun hp' ht' => by
        rcases hq.made n b1 c1 _ hn hp' he ht' with k | ⟨j', c', o2, k1, k2, k3, k4⟩
        · exact .inl k
        · have : j' < pre.length := (List.getElem?_eq_some_iff.1 k1).1
          exact .inr ⟨j', c', o2, k1, k2, get_set (by omega) k3, k4⟩
      rcases set_get ho with ⟨rfl, rfl⟩ | ⟨e, ho⟩
      · exact key hj rfl
      · exact key ho ht
    bare := fun n b1 c1 hn he => hq.bare n b1 c1 hn he
    keep := hq.keep
    newApart := fun n m o o2 b1 c1 b2 c2 hn hm ho hm' h1 h2 e1 e2 hne => by
      rcases set_get ho with ⟨_, k1⟩ | ⟨_, ho1⟩
      · rw [k1, how] at h1; cases h1
      · rcases set_get hm' with ⟨k1, k2⟩ | ⟨_, hm1⟩
        · exact fun ht => hq.newApart n m o (.vec cs t sz) b1 c1 b2 c2 hn hm ho1 (by rw [k1]; exact hj) h1 rfl e1 e2 hne (touches_eq ht)
        · exact hq.newApart n m o o2 b1 c1 b2 c2 hn hm ho1 hm1 h1 h2 e1 e2 hne
    grow := hq.grow, os := hq.os, tape := hq.tape, output := hq.output }
theorem meets_sealI {f : FuncId} {args : List AV} {pre post : List AObj} {res res' : AV} {j : Nat} {k : IntKind} {l l' : List Int} {t : TypeId} (h : Meets P f args pre res post) (hj : post[j]? = some (.vec (ints k l) t 1)) (hjp : pre.length ≤ j)
    (hres : ∀ E x, den E res = some x → den E res' = some x) (hl : l.take l'.length = l') : Meets P f args pre res' (post.set j (.flat true (ints k l'))) := meets_seal h hj hjp hres (Fits.vec_flat hl) rfl
/-- A slice that grows, handed over, and handed back as one that is never written, of another name. -/
theorem meets_hand {f : FuncId} {args : List AV} {pre post : List AObj} {j len : Nat} {cs : List AV} {t : TypeId} {sz : Nat} {m : Bool} {k : IntKind} {l l' : List Int} (h : Meets P f args pre (.vec j len) post) (hpre : pre[j]? = some (.vec cs t sz)) (hj : post[j]? = some (.vec (ints k l) t sz)) (hpp : pre.length ≤ post.length) (hl : l.take l'.length = l') :
    Meets P f args pre (.dsl post.length len) (post.set j .dead ++ [.flat m (ints k l')]) := by
  intro w E xs hxs hp
  refine (h w E xs hxs hp).mono ?_
  rintro e w' ⟨E', x, he, hd, hq⟩
  obtain ⟨b, c, hb, hob⟩ := hq.objs j _ hj
  obtain ⟨b0, c0, hb0, hob0⟩ := hp.objs j _ hpre
  have hbb := hq.le _ _ hb0
  rw [hb] at hbb
  obtain ⟨rfl, rfl⟩ : b = b0 ∧ c = c0 := by cases hbb; exact ⟨rfl, rfl⟩
  have hlt : b < w.heap.size := hob0.lt rfl rfl
  obtain ⟨ys, zs, hy, hw, hlen, ho, hz⟩ := id hob
  let c2 : Cap := { n := c.n }
  have hfit : ObjR E' w' b c2 (.flat m (ints k l')) := by
    have h1 : ObjR E' w' b c2 (.vec (ints k l) t sz) := ⟨ys, zs, hy, hw, hlen, rfl, rfl⟩
    exact Fits.vec_flat hl _ _ _ _ h1
  let E2 : Env := fun n => if n = post.length then some (b, c2) else E' n
  have h2 : E2 post.length = some (b, c2) := by simp [E2]
  have hle : Env.le E' E2 := fun n p hn => by
    have : n ≠ post.length := fun e => by rw [e, hq.cut _ (Nat.le_refl _)] at hn; cases hn
    simp [E2, this, hn]
  have back : ∀ (n b1 : Nat) (c1 : Cap), E2 n = some (b1, c1) → n ≠ post.length → E' n = some (b1, c1) := fun n b1 c1 hn hne => by
    have : E2 n = E' n := by simp [E2, hne]
    rw [← this]; exact hn
  have hjl : j < post.length := (List.getElem?_eq_some_iff.1 hj).1
  have ob : ∀ (n : Nat) (o : AObj), (post.set j .dead ++ [AObj.flat m (ints k l')])[n]? = some o → (n = j ∧ o = .dead) ∨ (n ≠ j ∧ n < post.length ∧ post[n]? = some o) ∨ (n = post.length ∧ o = .flat m (ints k l')) := fun n o hn => by
    rcases Nat.lt_or_ge n post.length with h1 | h1
    · rw [List.getElem?_append_left (by rw [List.length_set]; exact h1)] at hn
      rcases set_get hn with ⟨e1, e2⟩ | ⟨e1, e2⟩
      · exact .inl ⟨e1, e2⟩
      · exact .inr (.inl ⟨e1, h1, e2⟩)
    · rw [List.getElem?_append_right (by rw [List.length_set]; exact h1), List.length_set] at hn
      obtain ⟨k1, k2⟩ := List.getElem?_eq_some_iff.1 hn
      have : n = post.length := by simp at k1; omega
      subst this
      simp at k2; exact .inr (.inr ⟨rfl, k2.symm⟩)
  have dd : ∀ (n : Nat), post[n]? = some AObj.dead → (post.set j .dead ++ [AObj.flat m (ints k l')])[n]? = some AObj.dead := fun n hn => by
    have hn1 : n < post.length := (List.getElem?_eq_some_iff.1 hn).1
    have hne : n ≠ j := fun e => by rw [e, hj] at hn; cases hn
    rw [List.getElem?_append_left (by rw [List.length_set]; exact hn1)]
    exact get_set hne hn
  have dj : (post.set j .dead ++ [AObj.flat m (ints k l')])[j]? = some AObj.dead := by
    rw [List.getElem?_append_left (by rw [List.length_set]; exact hjl), List.getElem?_set_self hjl]
  refine ⟨E2, x, he, ?_, ?_⟩
  · simp only [den, hb, Option.bind_some] at hd
    simp only [den, h2, Option.bind_some]
    split at hd
    · rename_i hc
      rw [if_neg (by simp [c2]), if_pos hc.2.2]; exact hd
    · cases hd
  · exact {
      le := hq.le.trans hle
      cut := fun n hn => by
        rw [List.length_append, List.length_set, List.length_singleton] at hn
        have : E2 n = E' n := by simp [E2, show n ≠ post.length by omega]
        rw [this]; exact hq.cut n (by omega)
      objs := fun n o hn => by
        rcases ob n o hn with ⟨rfl, rfl⟩ | ⟨_, _, h1⟩ | ⟨rfl, rfl⟩
        · exact ⟨b, c, hle _ _ hb, trivial⟩
        · obtain ⟨b1, c1, g1, g2⟩ := hq.objs n o h1
          exact ⟨b1, c1, hle _ _ g1, g2.mono hle⟩
        · exact ⟨b, c2, h2, hfit.mono hle⟩
      made := fun n b1 c1 o hn ho he ht => by
        rcases ob n o ho with ⟨rfl, rfl⟩ | ⟨_, hl1, h1⟩ | ⟨rfl, rfl⟩
        · have := (List.getElem?_eq_some_iff.1 hpre).1; omega
        · rcases hq.made n b1 c1 o hn h1 (back n b1 c1 he (by omega)) ht with k | ⟨j', c', o2, k1, k2, k3, k4⟩
          · exact .inl k
          · exact .inr ⟨j', c', o2, k1, k2, dd _ k3, k4⟩
        · rw [h2] at he; cases he
          exact .inr ⟨j, c, _, hpre, rfl, dj, hb0⟩
      bare := fun n b1 c1 hn he => by
        by_cases e : n = post.length
        · subst e; rw [h2] at he; cases he; exact Cap.bare_of fun _ _ => rfl
        · exact hq.bare n b1 c1 hn (back n b1 c1 he e)
      keep := hq.keep
      newApart := fun n q o o2 b1 c1 b2 c3 hn hm ho hm' g1 g2 e1 e2 hne => by
        have hjp := (List.getElem?_eq_some_iff.1 hpre).1
        rcases ob n o ho with ⟨rfl, rfl⟩ | ⟨_, hl1, h1⟩ | ⟨rfl, rfl⟩
        · omega
        · have e1 := back n b1 c1 e1 (by omega)
          rcases ob q o2 hm' with ⟨rfl, rfl⟩ | ⟨_, hl2, k2⟩ | ⟨rfl, rfl⟩
          · omega
          · exact hq.newApart n q o o2 b1 c1 b2 c3 hn hm h1 k2 g1 g2 e1 (back q b2 c3 e2 (by omega)) hne
          · rw [h2] at e2; cases e2
            intro ht
            have hb1 : b1 = b := touches_eq ht
            rcases hq.made n b1 c1 o hn h1 e1 (touches_owned g1) with k | ⟨j', c', o3, k1, k2, k3, k4⟩
            · omega
            · have hjj : j' ≠ j := fun e => by rw [e, hj] at k3; cases k3
              exact hp.apart j' j o3 _ b1 c' b c k1 hpre k2 rfl k4 hb0 hjj hb1
        · cases g1
      grow := hq.grow, os := hq.os, tape := hq.tape, output := hq.output }
/-- Rows that grow are rows that are never written, as long as nobody writes them. -/
theorem Fits.vec_flatR {m : Bool} {sh : List CK} {rows : List (List CV)} {t : TypeId} : Fits (.vec (rowsA sh rows) t sh.length) (.flatR m sh rows) := fun E w b c ho => by
  have hlt := ho.lt rfl rfl
  obtain ⟨xs, ys, hx, ⟨mk, hw, hmk⟩, hl, h1, h2⟩ := ho
  refine ⟨fun e => (by rw [h2] at e; cases e), fun _ => ⟨hlt, fun i j v hi hj hv => ?_⟩⟩
  have hg := rowsA_get (sh := sh) hi hj
  obtain ⟨x, hx1, hx2⟩ := denC_get hx hg
  have hc : den E (cellA (sh.getD j .any) (rowCV (rowAt rows i) j)) = some v := by
    generalize sh.getD j .any = k at hv
    cases k <;> simp [cellV] at hv <;> subst hv <;> rfl
  rw [hc] at hx2
  cases hx2
  rw [h1, Nat.zero_add, cell_of_block hw]
  have hlt2 := (List.getElem?_eq_some_iff.1 hx1).1
  simp only [List.getElem?_toArray, List.getElem?_append_left hlt2, hx1]
theorem meets_fitO {f : FuncId} {args : List AV} {pre post : List AObj} {res : AV} {j : Nat} {o o' : AObj} (h : Meets P f args pre res post) (hj : pre[j]? = some o) (ho : o.owned = false) (hfit : Fits o' o) (hlv : o'.live = true) (htc : ∀ b c k, touches b c o k → touches b c o' k) :
    Meets P f args (pre.set j o') res (post.set j o') := by
  intro w E xs hxs hp
  have hjl : j < pre.length := (List.getElem?_eq_some_iff.1 hj).1
  have hv : (pre.set j o')[j]? = some o' := by rw [List.getElem?_set_self hjl]
  obtain ⟨b, cp, hE, hO⟩ := hp.objs j _ hv
  have own : ∀ (n : Nat) (p : AObj), pre[n]? = some p → p.owned = true → n ≠ j := fun n p hn hp e => by
    subst e; rw [hj] at hn; cases hn; rw [ho] at hp; cases hp
  have hp' : PreR E w pre := {
    objs := fun n p hn => by
      by_cases e : n = j
      · subst e; rw [hj] at hn; cases hn; exact ⟨b, cp, hE, hfit _ _ _ _ hO⟩
      · exact hp.objs n p (get_set e hn)
    fresh := fun n hn => hp.fresh n (by rw [List.length_set]; exact hn)
    apart := fun n m' p p2 b1 c1 b2 c2 hn hm hq hl e1 e2 hne => by
      have hnj := own n p hn hq
      by_cases e : m' = j
      · subst e
        rw [hj] at hm; cases hm
        exact fun ht => hp.apart n m' p _ b1 c1 b2 c2 (get_set hnj hn) hv hq hlv e1 e2 hne (htc _ _ _ ht)
      · exact hp.apart n m' p p2 b1 c1 b2 c2 (get_set hnj hn) (get_set e hm) hq hl e1 e2 hne
    glob := fun g hg => by
      obtain ⟨h1, h2, h3⟩ := hp.glob g hg
      refine ⟨h1, fun ⟨n, p, c', hn, hq, he⟩ => h2 ⟨n, p, c', get_set (own n p hn hq) hn, hq, he⟩, h3⟩
    nest := fun m b1 c1 k e1 e2 => let ⟨g1, g2⟩ := hp.nest m b1 c1 k e1 e2; ⟨g1, fun n p c' hn hq he => g2 n p c' (get_set (own n p hn hq) hn) hq he⟩ }
  refine (h w E xs hxs hp').mono ?_
  rintro e w' ⟨E', x, he, hd, hq⟩
  refine ⟨E', x, he, hd, ?_⟩
  have hblk : o'.live = true → touches b cp o' b → w'.heap[b]? = w.heap[b]? := fun hl ht => hq.keep b (hO.lt hl ht) fun n p c' hn hp1 he => by
    have hnj := own n p hn hp1
    exact hp.apart n j p _ b c' b cp (get_set hnj hn) hv hp1 hlv he hE hnj ht
  exact {
    le := hq.le
    cut := fun n hn => hq.cut n (by rw [List.length_set] at hn; exact hn)
    objs := fun n p hn => by
      rcases set_get hn with ⟨rfl, rfl⟩ | ⟨e, hn⟩
      · exact ⟨b, cp, hq.le _ _ hE, (hO.mono hq.le).block hblk fun h1 k hk => hq.keep k (hO.ltN h1 hk) fun n p c' hn hp1 he => (hp.nest _ b cp k hE hk).2 n p c' (get_set (own n p hn hp1) hn) hp1 he⟩
      · exact hq.objs n p hn
    made := fun n b1 c1 p hn hp1 he ht => by
      rw [List.length_set] at hn
      have hnj : n ≠ j := by omega
      rcases set_get hp1 with ⟨e, _⟩ | ⟨_, hp1⟩
      · exact absurd e hnj
      · rcases hq.made n b1 c1 p hn hp1 he ht with k | ⟨j', c', p2, k1, k2, k3, k4⟩
        · exact .inl k
        · have hjj := own j' p2 k1 k2
          exact .inr ⟨j', c', p2, get_set hjj k1, k2, get_set hjj k3, k4⟩
    bare := fun n b1 c1 hn he => hq.bare n b1 c1 (by rw [List.length_set] at hn; exact hn) he
    keep := fun k hk hne => hq.keep k hk fun n p c' hn hp1 => hne n p c' (get_set (own n p hn hp1) hn) hp1
    newApart := fun n m' p p2 b1 c1 b2 c2 hn hm hp1 hm' => by
      rw [List.length_set] at hn hm
      rcases set_get hp1 with ⟨e, _⟩ | ⟨_, hp1⟩
      · omega
      · rcases set_get hm' with ⟨e, _⟩ | ⟨_, hm'⟩
        · omega
        · exact hq.newApart n m' p p2 b1 c1 b2 c2 hn hm hp1 hm'
    grow := hq.grow
    os := hq.os, tape := hq.tape, output := hq.output }
/-- A contract of rows that are never written, of rows that grow. -/
theorem meets_fitR {f : FuncId} {args : List AV} {pre post : List AObj} {res : AV} {j : Nat} {m : Bool} {sh : List CK} {rows : List (List CV)} {t : TypeId} (h : Meets P f args pre res post) (hj : pre[j]? = some (.flatR m sh rows)) : Meets P f args (pre.set j (.vec (rowsA sh rows) t sh.length)) res (post.set j (.vec (rowsA sh rows) t sh.length)) :=
  meets_fitO h hj rfl Fits.vec_flatR rfl fun b c k ht => ht.2
/-- No slice at all, handed back as one that is never written. -/
theorem den_nil {E : Env} {nm : Nat} {x : Value} (h : den E .nilslice = some x) (hE : E nm = some (0, { n := 0, z := true })) : den E (.dsl nm 0) = some x := by
  simp only [den] at h
  simp only [den, hE, Option.bind_some, if_true]
  exact h
theorem meets_sealNil {f : FuncId} {args : List AV} {pre post : List AObj} {res res' : AV} (h : Meets P f args pre res post) (hpp : pre.length ≤ post.length)
    (hres : ∀ (E E' : Env) x, den E res = some x → Env.le E E' → E' post.length = some (0, { n := 0, z := true }) → den E' res' = some x) : Meets P f args pre res' (post ++ [.flat true []]) := by
  intro w E xs hxs hp
  refine (h w E xs hxs hp).mono ?_
  rintro e w' ⟨E', x, he, hd, hq⟩
  let E2 : Env := fun m => if m = post.length then some (0, { n := 0, z := true }) else E' m
  have h2 : E2 post.length = some (0, { n := 0, z := true }) := by simp [E2]
  have hle : Env.le E' E2 := fun m p hm => by
    have : m ≠ post.length := fun e => by rw [e, hq.cut _ (Nat.le_refl _)] at hm; cases hm
    simp [E2, this, hm]
  have back : ∀ (m b : Nat) (c : Cap), E2 m = some (b, c) → (m = post.length ∧ b = 0 ∧ c = { n := 0, z := true }) ∨ (m ≠ post.length ∧ E' m = some (b, c)) := fun m b c hm => by
    by_cases e : m = post.length
    · rw [e, h2] at hm; cases hm; exact .inl ⟨e, rfl, rfl⟩
    · refine .inr ⟨e, ?_⟩
      have : E2 m = E' m := by simp [E2, e]
      rw [← this]; exact hm
  have ob : ∀ (n : Nat) (o : AObj), (post ++ [AObj.flat true []])[n]? = some o → post[n]? = some o ∨ (n = post.length ∧ o = .flat true []) := fun n o hn => by
    rcases Nat.lt_or_ge n post.length with h1 | h1
    · rw [List.getElem?_append_left h1] at hn; exact .inl hn
    · rw [List.getElem?_append_right h1] at hn
      obtain ⟨k1, k2⟩ := List.getElem?_eq_some_iff.1 hn
      have : n = post.length := by simp at k1; omega
      subst this
      simp at k2; exact .inr ⟨rfl, k2.symm⟩
  have lt : ∀ {n : Nat} {o : AObj}, post[n]? = some o → n ≠ post.length := fun hn => by
    have := (List.getElem?_eq_some_iff.1 hn).1; omega
  refine ⟨E2, x, he, hres _ _ _ hd hle h2, ?_⟩
  exact {
    le := hq.le.trans hle
    cut := fun n hn => by
      rw [List.length_append, List.length_singleton] at hn
      have : E2 n = E' n := by simp [E2, show n ≠ post.length by omega]
      rw [this]; exact hq.cut n (by omega)
    objs := fun n o hn => by
      rcases ob n o hn with h1 | ⟨rfl, rfl⟩
      · obtain ⟨b, c, hb, ho⟩ := hq.objs n o h1
        exact ⟨b, c, hle _ _ hb, ho.mono hle⟩
      · exact ⟨0, _, h2, [], ⟨rfl, rfl⟩, fun _ => rfl, fun e => by cases e⟩
    made := fun n b1 c1 o hn ho he ht => by
      rcases ob n o ho with h1 | ⟨rfl, rfl⟩
      · rcases back n b1 c1 he with ⟨e, _⟩ | ⟨_, he⟩
        · exact absurd e (lt h1)
        · rcases hq.made n b1 c1 o hn h1 he ht with k | ⟨j', c', o2, k1, k2, k3, k4⟩
          · exact .inl k
          · exact .inr ⟨j', c', o2, k1, k2, by rw [List.getElem?_append_left (by have := (List.getElem?_eq_some_iff.1 k1).1; omega)]; exact k3, k4⟩
      · rw [h2] at he; cases he; exact absurd ht.1 (by simp)
    bare := fun n b1 c1 hn he => by
      rcases back n b1 c1 he with ⟨_, _, rfl⟩ | ⟨_, he⟩
      · exact Cap.bare_of fun _ _ => rfl
      · exact hq.bare n b1 c1 hn he
    keep := hq.keep
    newApart := fun n m o o2 b1 c1 b2 c2 hn hm ho hm' g1 g2 e1 e2 hne => by
      rcases ob n o ho with k1 | ⟨rfl, rfl⟩
      · rcases back n b1 c1 e1 with ⟨e, _⟩ | ⟨_, e1⟩
        · exact absurd e (lt k1)
        · rcases ob m o2 hm' with k2 | ⟨rfl, rfl⟩
          · rcases back m b2 c2 e2 with ⟨e, _⟩ | ⟨_, e2⟩
            · exact absurd e (lt k2)
            · exact hq.newApart n m o o2 b1 c1 b2 c2 hn hm k1 k2 g1 g2 e1 e2 hne
          · rw [h2] at e2; cases e2; exact fun ht => absurd ht.1 (by simp)
      · cases g1
    grow := hq.grow, os := hq.os, tape := hq.tape, output := hq.output }
end Go.Proofs.YtdomenmfkbfakaaGreatDoor.Sx

/- Layer 2: what is known of the program ahead of all: functions without a text, whole numbers that are picked, the examples. -/
set_option linter.unusedVariables false
set_option linter.unusedSimpArgs false
namespace Go.Proofs.YtdomenmfkbfakaaGreatDoor
open Go Sx

theorem host : ∀ (f : Nat) (fn : Func), Tryz.prog.funcs[f]? = some fn → (fn.name == "runtime.NumGoroutine") = false := by
  have h : (Tryz.prog.funcs.all fun fn => !(fn.name == "runtime.NumGoroutine")) = true := by kernel_rfl
  intro f fn hf
  have := Array.all_eq_true'.1 h fn (Array.mem_of_getElem? hf)
  simpa using this

/-- What a call comes to. -/
def Comes (T : Tab) (lv : FuncId → Lv) (f : FuncId) (args : List AV) (pre : List PObj) (x : Ans) : Prop :=
  ent (R := AV × List PObj) Tryz.prog T lv 64 18446744073709551616 30 f args pre pure2 = x.run pure2
theorem ans_comes {T : Tab} {lv : FuncId → Lv} {f : FuncId} {args : List AV} {pre : List PObj} {x : Ans} (hT : TabOK Tryz.prog T) (h : Comes T lv f args pre x) (hL : LvOK Tryz.prog lv := by exact nolv_ok) : AnsOK Tryz.prog f args pre x :=
  ans_of x fun res post k => meets_ent hT host (h.trans k) hL

def tab0 : Tab := [(135, eSame), (165, eIndexByte)]
theorem tab0_ok : TabOK Tryz.prog tab0 :=
  .cons (eSame_ok Tryz.func135 (by kernel_rfl) (by kernel_rfl) (by kernel_rfl) (by kernel_rfl))
  (.cons (eIndexByte_ok Tryz.func165 (by kernel_rfl) (by kernel_rfl) (by kernel_rfl) (by kernel_rfl)) .nil)

/-- Answers that come to the same. -/
theorem of_run {f : FuncId} {args : List AV} {pre : List PObj} {x y : Ans} (h : AnsOK Tryz.prog f args pre x) (e : ∀ r, y.run pure2 = some r → x.run pure2 = some r) : AnsOK Tryz.prog f args pre y :=
  ans_of y fun res post k => by
    obtain ⟨a, b, h1, h2⟩ := Ans.sound x h (e _ k)
    cases h2; exact h1
theorem bcT {α : Type} {b : Bool} {x y : α} (h : b = true) : bcond b x y = x := by rw [h]; rfl
theorem bcF {α : Type} {b : Bool} {x y : α} (h : b = false) : bcond b x y = y := by rw [h]; rfl
theorem chk_run {b : Bool} {x : Ans} {r : AV × List PObj} (h : (Ans.chk b x).run pure2 = some r) : b = true ∧ x.run pure2 = some r := by
  cases b
  · cases h
  · exact ⟨rfl, h⟩

/-- The examples. -/
def eTrue : Ent := fun args pre => match args, pre with | [], [] => .ret (.bool true) [] | _, _ => .fail
def inI (a : Int) : Bool := decide (-9223372036854775808 ≤ a ∧ a < 9223372036854775808)
theorem inI_iff {a : Int} : inI a = true ↔ -9223372036854775808 ≤ a ∧ a < 9223372036854775808 := by simp [inI]
/-- pick: which of n things. -/
def pickS (a n : Int) : Int := if a < 0 then (-(a + 1)).tmod n else a.tmod n
theorem pickS_bd {a n : Int} (h : 0 < n) : 0 ≤ pickS a n ∧ pickS a n < n := by
  unfold pickS
  split
  · rw [Int.tmod_eq_emod_of_nonneg (by omega)]; exact ⟨Int.emod_nonneg _ (by omega), Int.emod_lt_of_pos _ h⟩
  · rw [Int.tmod_eq_emod_of_nonneg (by omega)]; exact ⟨Int.emod_nonneg _ (by omega), Int.emod_lt_of_pos _ h⟩
end Go.Proofs.YtdomenmfkbfakaaGreatDoor


set_option linter.unusedVariables false
set_option linter.unusedSimpArgs false
set_option maxRecDepth 20000
namespace Go.Proofs.YtdomenmfkbfakaaGreatDoor.Dq
open Go Sx Dc
theorem right_bounds {m e : Int} (h : rightB m e = true) : (-1000000000000000 < m ∧ m < 1000000000000000) ∧ -9 ≤ e ∧ e ≤ 9 := by
  simp only [rightB, decide_eq_true_eq] at h; omega

theorem wbT {c : Int} (hc : 0 ≤ c ∧ c < 256) : ((decide (0 ≤ c ∧ c < 256) && true) && true) = true := by rw [decide_eq_true hc]; rfl
theorem writeByte_new (c : Int) (hc : 0 ≤ c ∧ c < 256) : Meets Tryz.prog 79 [jP 0 0, jU c] [jC [AV.nilptr, AV.nilslice] 101] AV.niliface [jC [jP 0 0, AV.vec 1 ([UInt8.ofNat c.toNat].length)] 101, AObj.vec (u8s [UInt8.ofNat c.toNat]) 5 1] := by
  have e : Comes tab0 nolv 79 [.ptr 0 0, .int .u8 c] [.raw (.cells [.nilptr, .nilslice] 101)] (.chk ((decide (0 ≤ c ∧ c < 256) && true) && true) (.ret .niliface [.raw (.cells [.ptr 0 0, .vec 1 1] 101), .vecB [toByte c] 5])) := by unfold Comes; kernel_rfl
  exact meets_ent (pre := [.raw (.cells [.nilptr, .nilslice] 101)]) (post := [.raw (.cells [.ptr 0 0, .vec 1 1] 101), .vecB [toByte c] 5]) tab0_ok host (e.trans (bcT (wbT hc))) nolv_ok
theorem writeByte_more (s : List UInt8) (c : Int) (hc : 0 ≤ c ∧ c < 256) (hs : s.length < 1000000) : Meets Tryz.prog 79 [jP 0 0, jU c] [jC [jP 0 0, AV.vec 1 s.length] 101, AObj.vec (u8s s) 5 1] AV.niliface [jC [jP 0 0, AV.vec 2 ((s ++ [UInt8.ofNat c.toNat]).length)] 101, AObj.dead, AObj.vec (u8s (s ++ [UInt8.ofNat c.toNat])) 5 1] := by
  have e : ∀ n : Nat, Comes tab0 nolv 79 [.ptr 0 0, .int .u8 c] [.raw (.cells [.ptr 0 0, .vec 1 n] 101), .vecB s 5] (.chk ((decide (0 ≤ c ∧ c < 256) && true) && decide (s.length = n * 1) && decide (2 * (n + 1) * 1 ≤ 281474976710656 ∧ 2 * (n + 1) < 9223372036854775808)) (.ret .niliface [.raw (.cells [.ptr 0 0, .vec 2 (n + 1)] 101), .raw .dead, .vecB (s ++ [toByte c]) 5])) := fun n => by unfold Comes; kernel_rfl
  rw [show (s ++ [UInt8.ofNat c.toNat]).length = s.length + 1 by simp]
  exact meets_ent (pre := [.raw (.cells [.ptr 0 0, .vec 1 s.length] 101), .vecB s 5]) (post := [.raw (.cells [.ptr 0 0, .vec 2 (s.length + 1)] 101), .raw .dead, .vecB (s ++ [toByte c]) 5]) tab0_ok host ((e s.length).trans (bcT (by rw [decide_eq_true hc, decide_eq_true (show s.length = s.length * 1 by omega), decide_eq_true (show 2 * (s.length + 1) * 1 ≤ 281474976710656 ∧ 2 * (s.length + 1) < 9223372036854775808 by omega)]; rfl))) nolv_ok
theorem builderString_meets (s : List UInt8) (h0 : s ≠ []) (hs : s.length < 1000000) : Meets Tryz.prog 80 [jP 0 0] [jC [jP 0 0, AV.vec 1 s.length] 101, AObj.vec (u8s s) 5 1] (jS s) [jC [jP 0 0, AV.vec 1 s.length] 101, AObj.dead] := by
  exact meets_run (fn := Tryz.f80) 0 [rG [], rG [hhV 3 (AV.vec 1 s.length), hhV 8 (AV.vec 1 s.length), hhV 10 (jS s)]] [{}] Tryz.func80 (by kernel_rfl) Tryz.call80
    (oA (oLf ([jP 0 0, AV.vec 1 s.length]) (1) (AV.vec 1 s.length) (rfl)) <| oA (oS (show 0 < List.length (u8s s) from by rw [u8s_length]; exact List.length_pos_iff.2 h0)) <| oA (oLf ([jP 0 0, AV.vec 1 s.length]) (1) (AV.vec 1 s.length) (rfl)) <| oA (oS (show u8s s = u8s s from rfl)) <| oA (oS (show ((s.length : Nat) : Int) = ((s.length : Nat) : Int) from rfl)) <| oA (oS (show s ≠ [] from h0)) <| oS (show s.length < 9223372036854775808 from by omega))
    (oA (oS (@rfl _ (jS s))) <| oA (oS (show jC [jP 0 0, AV.vec 1 s.length] 101 = jC [jP 0 0, AV.vec 1 s.length] 101 from rfl)) <| oS (show AvoidO (fun n => decide (2 ≤ n)) (jC [jP 0 0, AV.vec 1 s.length] 101) from AvoidO.cells (AvoidL.cons (Avoid.ptr rfl) (AvoidL.cons (Avoid.vec rfl) (AvoidL.nil _))))) (by kernel_rfl)

end Go.Proofs.YtdomenmfkbfakaaGreatDoor.Dq

/- How a decimal's figures are shown: plain mathematics. -/
set_option linter.unusedVariables false
set_option linter.unusedSimpArgs false
namespace Go.Proofs.YtdomenmfkbfakaaGreatDoor.Dq
open Dc

def chB (d : Int) : UInt8 := UInt8.ofNat (48 + d).toNat
/-- The first figure that is shown, and the last one's end. -/
def fstGo (ds : List Int) : Nat → Nat → Nat
  | 0, k => k
  | f + 1, k => if k < 47 ∧ ds.getD k 0 = 0 then fstGo ds f (k + 1) else k
def lstGo (ds : List Int) : Nat → Nat → Nat
  | 0, k => k
  | f + 1, k => if 48 < k ∧ ds.getD (k - 1) 0 = 0 then lstGo ds f (k - 1) else k
def txt (ds : List Int) (a : Nat) : Nat → List UInt8
  | 0 => []
  | n + 1 => txt ds a n ++ ((if a + n = 48 then [46] else []) ++ [chB (ds.getD (a + n) 0)])
def textB (mx : Bool) (ds : List Int) : List UInt8 := (if mx = true then [45] else []) ++ txt ds (fstGo ds 47 0) (lstGo ds 40 88 - fstGo ds 47 0)
theorem fstGo_le (ds : List Int) : ∀ (f k : Nat), k ≤ 47 → fstGo ds f k ≤ 47
  | 0, k, h => h
  | f + 1, k, h => by
    rw [fstGo]; split
    · exact fstGo_le ds f (k + 1) (by omega)
    · exact h
theorem lstGo_ge (ds : List Int) : ∀ (f k : Nat), 48 ≤ k → 48 ≤ lstGo ds f k ∧ lstGo ds f k ≤ k
  | 0, k, h => ⟨h, Nat.le_refl _⟩
  | f + 1, k, h => by
    rw [lstGo]; split
    · have := lstGo_ge ds f (k - 1) (by omega); omega
    · exact ⟨h, Nat.le_refl _⟩
theorem txt_len (ds : List Int) (a : Nat) : ∀ n, (txt ds a n).length ≤ 2 * n
  | 0 => by simp [txt]
  | n + 1 => by
    have := txt_len ds a n
    rw [txt]
    split <;> simp <;> omega
end Go.Proofs.YtdomenmfkbfakaaGreatDoor.Dq
