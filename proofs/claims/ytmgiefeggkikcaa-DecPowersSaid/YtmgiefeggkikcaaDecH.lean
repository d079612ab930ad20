import Derived.Test.YtmgiefeggkikcaaDecG
set_option linter.unusedVariables false
set_option linter.unusedSimpArgs false
set_option maxRecDepth 20000
namespace Go.Proofs.Ytmgiefeggkikcaa
open Go Sx Dc

/-- The nearest decimal: the first place at which what is rounded has not too many digits. -/
def nearGo (ds : List Int) : Nat → Nat → Option (Int × Int)
  | 0, _ => none
  | f + 1, j => if evenN ds (57 - j) ≤ 999999999999999 then some (evenN ds (57 - j), (j : Int) - 9) else nearGo ds f (j + 1)
def nearM (mx : Bool) (ds : List Int) : Int × Int :=
  match nearGo ds 19 0 with
  | none => (0, 0)
  | some (n, e) => trimmedS (if mx = true then -n else n) e
def nearE (ds : List Int) : Int := if (nearGo ds 19 0).isNone then 10 else 0

def near_inv (mx : Bool) (ds : List Int) (e : Int) : AState :=
  ⟨[none, sP 0 0, sP 1 0, sI 0, sI e, none, none, none, none, none, none, none, none, none, none, none, none, none, none, none, none, none, none, none, none, none], [some (jC ((jB mx) :: (ints .u8 ds)) 50), some (jC [jI 0, jI 0] 23)]⟩

theorem near_round (mx : Bool) (ds : List Int) (e : Int) (w : Nat) (hl : ds.length = 88) (hd : Dig ds) (hw : 48 - e = w) (he : -9 ≤ e ∧ e ≤ 9) (h : ¬ evenN ds w ≤ 999999999999999) : Tri Try.prog (loopN (bodyOf Try.f32) 0) (near_inv mx ds e) .normal (near_inv mx ds (e + 1)) := by
  exact tri_weak [rG [hhB 1 true], rG [(1, {call := some ⟨[0], [jP 0 0, jI e], [jC ((jB mx) :: (ints .u8 ds)) 50], jT [jI (capN (evenN ds w)), jB (capB (evenN ds w))], [jC ((jB mx) :: (ints .u8 ds)) 50]⟩, val := some (jT [jI 0, jB false]), obj := some [jC ((jB mx) :: (ints .u8 ds)) 50]})], rG [hhB 1 true], rG [hhI 1 (e + 1)]]
    (oA (oS (show AV.bool (decide (e ≤ 9)) = jB true from bT (by omega))) <| oA (oS (show [jP 0 0, jI e] = renL [0] [jP 0 0, jI e] from rfl)) <| oA (oS (show Meets Try.prog 66 [jP 0 0, jI e] [jC ((jB mx) :: (ints .u8 ds)) 50] (jT [jI (capN (evenN ds w)), jB (capB (evenN ds w))]) [jC ((jB mx) :: (ints .u8 ds)) 50] from even_meets mx ds e w hl hd (by omega) hw)) <| oA (oS (show Fits (jC ((jB mx) :: (ints .u8 ds)) 50) (AObj.ren [0] (jC ((jB mx) :: (ints .u8 ds)) 50)) from Fits.of_eq (by simp only [AObj.ren, renL, AV.ren, renL_ints, renL_u8s, renL_append]))) <| oA (oS (show AV.ren [0] (jT [jI (capN (evenN ds w)), jB (capB (evenN ds w))]) = jT [jI 0, jB false] from cap_neg h)) <| oA (oS (show updOf [0] [jC ((jB mx) :: (ints .u8 ds)) 50] [jC ((jB mx) :: (ints .u8 ds)) 50] [jC ((jB mx) :: (ints .u8 ds)) 50] ++ List.map (fun x => x.ren [0]) (List.drop 1 [jC ((jB mx) :: (ints .u8 ds)) 50]) = [jC ((jB mx) :: (ints .u8 ds)) 50] from by simp [updOf, AObj.owned, AObj.ren, renL, AV.ren, renL_ints, renL_u8s, renL_append])) <| oA (oS (show AV.bool (!false) = jB true from rfl)) <| oWs (e + 1) (by omega))
    (oA (oR [jP 0 0, jP 1 0, jI 0, jI (e + 1)]) <| oQ [jC ((jB mx) :: (ints .u8 ds)) 50, jC [jI 0, jI 0] 23]) (by kernel_rfl)

def near_found (mx : Bool) (ds : List Int) (m e : Int) : AState :=
  ⟨[none, none, sP 1 0, sI 0, none, none, none, none, none, none, none, none, none, none, none, none, none, none, none, none, none, none, none, none, none, none], [some (jC ((jB mx) :: (ints .u8 ds)) 50), some (jC [jI m, jI e] 23)]⟩

theorem near_got (mx : Bool) (ds : List Int) (e : Int) (w : Nat) (hl : ds.length = 88) (hd : Dig ds) (hw : 48 - e = w) (he : -9 ≤ e ∧ e ≤ 9) (h : evenN ds w ≤ 999999999999999) : Tri Try.prog (loopN (bodyOf Try.f32) 0) (near_inv mx ds e) .ret (near_found mx ds (trimmedS (if mx = true then -evenN ds w else evenN ds w) e).1 (trimmedS (if mx = true then -evenN ds w else evenN ds w) e).2) := by
  have hge := evenN_ge ds w
  have hb := (val_bounds _ (hd.take w)).1
  have o1 := oA (oS (show AV.bool (decide (e ≤ 9)) = jB true from bT (by omega))) <| oA (oS (show [jP 0 0, jI e] = renL [0] [jP 0 0, jI e] from rfl)) <| oA (oS (show Meets Try.prog 66 [jP 0 0, jI e] [jC ((jB mx) :: (ints .u8 ds)) 50] (jT [jI (capN (evenN ds w)), jB (capB (evenN ds w))]) [jC ((jB mx) :: (ints .u8 ds)) 50] from even_meets mx ds e w hl hd (by omega) hw)) <| oA (oS (show Fits (jC ((jB mx) :: (ints .u8 ds)) 50) (AObj.ren [0] (jC ((jB mx) :: (ints .u8 ds)) 50)) from Fits.of_eq (by simp only [AObj.ren, renL, AV.ren, renL_ints, renL_u8s, renL_append]))) <| oA (oS (show AV.ren [0] (jT [jI (capN (evenN ds w)), jB (capB (evenN ds w))]) = jT [jI (evenN ds w), jB true] from cap_pos h)) <| oA (oS (show updOf [0] [jC ((jB mx) :: (ints .u8 ds)) 50] [jC ((jB mx) :: (ints .u8 ds)) 50] [jC ((jB mx) :: (ints .u8 ds)) 50] ++ List.map (fun x => x.ren [0]) (List.drop 1 [jC ((jB mx) :: (ints .u8 ds)) 50]) = [jC ((jB mx) :: (ints .u8 ds)) 50] from by simp [updOf, AObj.owned, AObj.ren, renL, AV.ren, renL_ints, renL_u8s, renL_append])) <| oS (show AV.bool (!true) = jB false from rfl)
  let q1 : List Orc := [rG [hhB 1 true], rG [(1, {call := some ⟨[0], [jP 0 0, jI e], [jC ((jB mx) :: (ints .u8 ds)) 50], jT [jI (capN (evenN ds w)), jB (capB (evenN ds w))], [jC ((jB mx) :: (ints .u8 ds)) 50]⟩, val := some (jT [jI (evenN ds w), jB true]), obj := some [jC ((jB mx) :: (ints .u8 ds)) 50]})], rG [hhB 1 false]]
  by_cases c3 : mx = true
  · exact tri_weak (q1 ++ [rG [hhB 1 true], rG [hhI 1 (-(evenN ds w))], rG [hhM 2 (trimmed_meets (-(evenN ds w)) e (by omega) (by omega)), (3, {obj := some [jC [jI ((trimmedS (-(evenN ds w)) e).1), jI ((trimmedS (-(evenN ds w)) e).2)] 23]})]])
      (oA o1 <| oA (oLf ((jB mx) :: (ints .u8 ds)) (0) (jB true) (atT (rfl) c3)) <| oA (oW (0 - (evenN ds w)) (-(evenN ds w)) (by omega)) <| oA (oC (trimmed_meets (-(evenN ds w)) e (by omega) (by omega)) rfl) <| oSw ([jI ((trimmedS (-(evenN ds w)) e).1), jI ((trimmedS (-(evenN ds w)) e).2)]) ([jI 0, jI 0]) 23 (rfl) (rfl))
      (oA (oR [jP 1 0, jI 0]) <| oA (oQ [jC ((jB mx) :: (ints .u8 ds)) 50]) <| oS (show jC [jI ((trimmedS (-(evenN ds w)) e).1), jI ((trimmedS (-(evenN ds w)) e).2)] 23 = jC [jI ((trimmedS (if mx = true then -evenN ds w else evenN ds w) e).1), jI ((trimmedS (if mx = true then -evenN ds w else evenN ds w) e).2)] 23 from by simp only [*, if_true, if_false, Bool.false_eq_true])) (by kernel_rfl)
  · exact tri_weak (q1 ++ [rG [hhB 1 false], rG [hhM 2 (trimmed_meets (evenN ds w) e (by omega) (by omega)), (3, {obj := some [jC [jI ((trimmedS (evenN ds w) e).1), jI ((trimmedS (evenN ds w) e).2)] 23]})]])
      (oA o1 <| oA (oLf ((jB mx) :: (ints .u8 ds)) (0) (jB false) (atF (rfl) c3)) <| oA (oC (trimmed_meets (evenN ds w) e (by omega) (by omega)) rfl) <| oSw ([jI ((trimmedS (evenN ds w) e).1), jI ((trimmedS (evenN ds w) e).2)]) ([jI 0, jI 0]) 23 (rfl) (rfl))
      (oA (oR [jP 1 0, jI 0]) <| oA (oQ [jC ((jB mx) :: (ints .u8 ds)) 50]) <| oS (show jC [jI ((trimmedS (evenN ds w) e).1), jI ((trimmedS (evenN ds w) e).2)] 23 = jC [jI ((trimmedS (if mx = true then -evenN ds w else evenN ds w) e).1), jI ((trimmedS (if mx = true then -evenN ds w else evenN ds w) e).2)] 23 from by simp only [*, if_true, if_false, Bool.false_eq_true])) (by kernel_rfl)

def near_lost (mx : Bool) (ds : List Int) : AState :=
  ⟨[none, none, sP 1 0, none, none, none, none, none, none, none, none, none, none, none, none, none, none, none, none, none, none, none, none, none, none, none], [some (jC ((jB mx) :: (ints .u8 ds)) 50), some (jC [jI 0, jI 0] 23)]⟩

theorem near_last (mx : Bool) (ds : List Int) (e : Int) (he : ¬ e ≤ 9) : Tri Try.prog (loopN (bodyOf Try.f32) 0) (near_inv mx ds e) (.exit 0) (near_lost mx ds) := by
  exact tri_weak [rG [hhB 1 false]]
    (oS (show AV.bool (decide (e ≤ 9)) = jB false from bF he))
    (oA (oR [jP 1 0]) <| oQ [jC ((jB mx) :: (ints .u8 ds)) 50, jC [jI 0, jI 0] 23]) (by kernel_rfl)

theorem near_loop_none (mx : Bool) (ds : List Int) (hl : ds.length = 88) (hd : Dig ds) (h : nearGo ds 19 0 = none) : Tri Try.prog (.loop (loopN (bodyOf Try.f32) 0)) (near_inv mx ds (-9)) (.exit 0) (near_lost mx ds) :=
  tri_loop (ι := {q : Nat × Nat // q.1 + q.2 = 19 ∧ nearGo ds q.1 q.2 = none}) (fun i => near_inv mx ds ((i.1.2 : Int) - 9)) (fun i => i.1.1) (ne_normal_exit 0) (by
    rintro ⟨⟨n, j⟩, hj, h⟩
    simp only at hj h
    cases n with
    | zero => exact .inr (near_last mx ds _ (by simp only; omega))
    | succ n =>
      rw [nearGo] at h
      split at h
      · cases h
      · rename_i hc
        refine .inl ⟨⟨(n, j + 1), by simp only; omega, h⟩, Nat.lt_succ_self n, ?_⟩
        have := near_round mx ds ((j : Int) - 9) (57 - j) hl hd (by omega) (by omega) hc
        rwa [show (j : Int) - 9 + 1 = ((j + 1 : Nat) : Int) - 9 by omega] at this) ⟨(19, 0), rfl, h⟩
theorem near_loop_some (mx : Bool) (ds : List Int) (hl : ds.length = 88) (hd : Dig ds) (N e : Int) (h : nearGo ds 19 0 = some (N, e)) : Tri Try.prog (.loop (loopN (bodyOf Try.f32) 0)) (near_inv mx ds (-9)) .ret (near_found mx ds (trimmedS (if mx = true then -N else N) e).1 (trimmedS (if mx = true then -N else N) e).2) :=
  tri_loop (ι := {q : Nat × Nat // q.1 + q.2 = 19 ∧ nearGo ds q.1 q.2 = some (N, e)}) (fun i => near_inv mx ds ((i.1.2 : Int) - 9)) (fun i => i.1.1) ne_normal_ret (by
    rintro ⟨⟨n, j⟩, hj, h⟩
    simp only at hj h
    cases n with
    | zero => cases h
    | succ n =>
      rw [nearGo] at h
      split at h
      · rename_i hc
        simp only [Option.some.injEq, Prod.mk.injEq] at h
        obtain ⟨rfl, rfl⟩ := h
        exact .inr (near_got mx ds ((j : Int) - 9) (57 - j) hl hd (by omega) (by omega) hc)
      · rename_i hc
        refine .inl ⟨⟨(n, j + 1), by simp only; omega, h⟩, Nat.lt_succ_self n, ?_⟩
        have := near_round mx ds ((j : Int) - 9) (57 - j) hl hd (by omega) (by omega) hc
        rwa [show (j : Int) - 9 + 1 = ((j + 1 : Nat) : Int) - 9 by omega] at this) ⟨(19, 0), rfl, h⟩
theorem nearE_none {ds : List Int} {mx : Bool} (h : nearGo ds 19 0 = none) : AV.tuple [AV.agg [AV.int .i64 0, AV.int .i64 0], AV.int .i64 10] = AV.tuple [AV.agg [AV.int .i64 (nearM mx ds).1, AV.int .i64 (nearM mx ds).2], AV.int .i64 (nearE ds)] := by simp [nearM, nearE, h]
theorem nearE_some {ds : List Int} {mx : Bool} {N e : Int} (h : nearGo ds 19 0 = some (N, e)) : AV.tuple [AV.agg [AV.int .i64 (trimmedS (if mx = true then -N else N) e).1, AV.int .i64 (trimmedS (if mx = true then -N else N) e).2], AV.int .i64 0] = AV.tuple [AV.agg [AV.int .i64 (nearM mx ds).1, AV.int .i64 (nearM mx ds).2], AV.int .i64 (nearE ds)] := by simp [nearM, nearE, h]

theorem nearest_none (mx : Bool) (ds : List Int) (hl : ds.length = 88) (hd : Dig ds) (h : nearGo ds 19 0 = none) : Meets Try.prog 32 [jA ((jB mx) :: (ints .u8 ds))] [] (jT [jA [jI ((nearM mx ds).1), jI ((nearM mx ds).2)], jI (nearE ds)]) [] := by
  exact meets_run (fn := Try.f32) 2 [rG [hhN 0 0, hhN 1 1], rG [], .loop (⟨[none, sP 0 0, sP 1 0, sI 0, sI (-9), none, none, none, none, none, none, none, none, none, none, none, none, none, none, none, none, none, none, none, none, none], [some (jC ((jB mx) :: (ints .u8 ds)) 50), some (jC [jI 0, jI 0] 23)]⟩) (.exit 0) (⟨[none, none, sP 1 0, none, none, none, none, none, none, none, none, none, none, none, none, none, none, none, none, none, none, none, none, none, none, none], [some (jC ((jB mx) :: (ints .u8 ds)) 50), some (jC [jI 0, jI 0] 23)]⟩), rG [(1, {obj := some [jC [jI 0, jI 0] 23]})]] [{val := some (jA [jI 0, jI 0])}, {}] Try.func32 (by kernel_rfl) Try.call32
    (oA (oR [jP 0 0, jP 1 0, jI 0, jI (-9)]) <| oA (oQ [jC ((jB mx) :: (ints .u8 ds)) 50, jC [jI 0, jI 0] 23]) <| oA (oS (show Tri Try.prog (.loop (loopN (bodyOf Try.f32) 0)) (⟨[none, sP 0 0, sP 1 0, sI 0, sI (-9), none, none, none, none, none, none, none, none, none, none, none, none, none, none, none, none, none, none, none, none, none], [some (jC ((jB mx) :: (ints .u8 ds)) 50), some (jC [jI 0, jI 0] 23)]⟩) (.exit 0) (⟨[none, none, sP 1 0, none, none, none, none, none, none, none, none, none, none, none, none, none, none, none, none, none, none, none, none, none, none, none], [some (jC ((jB mx) :: (ints .u8 ds)) 50), some (jC [jI 0, jI 0] 23)]⟩) from near_loop_none mx ds hl hd h)) <| oSw ([jI 0, jI 0]) ([jI 0, jI 0]) 23 (rfl) (rfl))
    (oA (oLw ([jI 0, jI 0]) (rfl)) <| oA (oS (show jT [jA [jI 0, jI 0], jI 10] = jT [jA [jI ((nearM mx ds).1), jI ((nearM mx ds).2)], jI (nearE ds)] from nearE_none h)) <| oV (D := (fun n => decide (0 ≤ n))) (jT [jA [jI ((nearM mx ds).1), jI ((nearM mx ds).2)], jI (nearE ds)]) rfl) (by kernel_rfl)

theorem nearest_some (mx : Bool) (ds : List Int) (N e : Int) (hl : ds.length = 88) (hd : Dig ds) (h : nearGo ds 19 0 = some (N, e)) : Meets Try.prog 32 [jA ((jB mx) :: (ints .u8 ds))] [] (jT [jA [jI ((nearM mx ds).1), jI ((nearM mx ds).2)], jI (nearE ds)]) [] := by
  exact meets_run (fn := Try.f32) 2 [rG [hhN 0 0, hhN 1 1], rG [], .loop (⟨[none, sP 0 0, sP 1 0, sI 0, sI (-9), none, none, none, none, none, none, none, none, none, none, none, none, none, none, none, none, none, none, none, none, none], [some (jC ((jB mx) :: (ints .u8 ds)) 50), some (jC [jI 0, jI 0] 23)]⟩) .ret (⟨[none, none, sP 1 0, sI 0, none, none, none, none, none, none, none, none, none, none, none, none, none, none, none, none, none, none, none, none, none, none], [some (jC ((jB mx) :: (ints .u8 ds)) 50), some (jC [jI ((trimmedS (if mx = true then -N else N) e).1), jI ((trimmedS (if mx = true then -N else N) e).2)] 23)]⟩)] [{val := some (jA [jI ((trimmedS (if mx = true then -N else N) e).1), jI ((trimmedS (if mx = true then -N else N) e).2)])}, {}] Try.func32 (by kernel_rfl) Try.call32
    (oA (oR [jP 0 0, jP 1 0, jI 0, jI (-9)]) <| oA (oQ [jC ((jB mx) :: (ints .u8 ds)) 50, jC [jI 0, jI 0] 23]) <| oS (show Tri Try.prog (.loop (loopN (bodyOf Try.f32) 0)) (⟨[none, sP 0 0, sP 1 0, sI 0, sI (-9), none, none, none, none, none, none, none, none, none, none, none, none, none, none, none, none, none, none, none, none, none], [some (jC ((jB mx) :: (ints .u8 ds)) 50), some (jC [jI 0, jI 0] 23)]⟩) .ret (⟨[none, none, sP 1 0, sI 0, none, none, none, none, none, none, none, none, none, none, none, none, none, none, none, none, none, none, none, none, none, none], [some (jC ((jB mx) :: (ints .u8 ds)) 50), some (jC [jI ((trimmedS (if mx = true then -N else N) e).1), jI ((trimmedS (if mx = true then -N else N) e).2)] 23)]⟩) from near_loop_some mx ds hl hd N e h))
    (oA (oLw ([jI ((trimmedS (if mx = true then -N else N) e).1), jI ((trimmedS (if mx = true then -N else N) e).2)]) (rfl)) <| oA (oS (show jT [jA [jI ((trimmedS (if mx = true then -N else N) e).1), jI ((trimmedS (if mx = true then -N else N) e).2)], jI 0] = jT [jA [jI ((nearM mx ds).1), jI ((nearM mx ds).2)], jI (nearE ds)] from nearE_some h)) <| oV (D := (fun n => decide (0 ≤ n))) (jT [jA [jI ((nearM mx ds).1), jI ((nearM mx ds).2)], jI (nearE ds)]) rfl) (by kernel_rfl)

theorem nearest_meets (mx : Bool) (ds : List Int) (hl : ds.length = 88) (hd : Dig ds) : Meets Try.prog 32 [AV.agg (AV.bool mx :: ints .u8 ds)] [] (jT [jA [jI ((nearM mx ds).1), jI ((nearM mx ds).2)], jI (nearE ds)]) [] := by
  cases h : nearGo ds 19 0 with
  | none => exact nearest_none mx ds hl hd h
  | some p => exact nearest_some mx ds p.1 p.2 hl hd h

end Go.Proofs.Ytmgiefeggkikcaa
