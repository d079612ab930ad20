/- Law 3: what is put in, and which arrays there are (ValReads): the whole law. -/
import Derived.Test.YtdomenmfkbfakaaGreatDoorGr11
set_option linter.unusedVariables false
set_option linter.unusedSimpArgs false
set_option linter.unusedSectionVars false
namespace Go.Proofs.YtdomenmfkbfakaaGreatDoor
open Go Sx
theorem arJ_lt {f : FV} {a : Nat} {R : List (List CV)} {i : Nat} (h : i < a) : arJ f a R i = nrm (rvF f (Sx.rowAt R i)) := by
  unfold arJ; rw [show Nat.beq a 0 = false from Bool.eq_false_iff.2 fun e => by have := beqT.1 e; omega, Nat.mod_eq_of_lt h]; rfl
section
variable {V : List CV} {e h w p0 p1 : Int} {a : Nat} {R : List (List CV)}
def sVrj (V : List CV) (e h w p0 p1 : Int) (a : Nat) (R : List (List CV)) : Nat → PState
  | 0 => sVr V e h w p0 p1 a R .nilslice [] 0
  | n + 1 => sVr V e h w p0 p1 a R (.vec 4 (n + 1)) [some (vR34 (arL valR a R (n + 1)))] ((n + 1 : Nat) : Int)
def xVr (V : List CV) (e h w p0 p1 : Int) (a : Nat) (R : List (List CV)) : Nat → PState
  | 0 => sVrX V e h w p0 p1 a R .nilslice []
  | n + 1 => sVrX V e h w p0 p1 a R (.vec 4 (n + 1)) [some (vR34 (arL valR a R (n + 1)))]
theorem roundVr {mk md : Ent} (hR : okW a R) (ha : a ≤ 500) (j : Nat) (hj : j < a) : code (ent Tryz.prog (tVr mk md valR isTx rdV) nolv 64 1 20) Tryz.prog {} 1 64 1 loopVr (sVrj V e h w p0 p1 a R j) (endK 1 64 (fun n => hasN [1, 2, 3, 9, 11, 12, 13, 14, 15, 16, 17] n) (fun n => hasN [1, 2, 3, 9, 11, 12, 13, 14, 15, 16] n)) = some (.normal, sVrj V e h w p0 p1 a R (j + 1)) := by
  obtain ⟨hl, hs, hc⟩ := hR
  have hb : ∀ n, n ≤ 1000 → bV n (arL valR a R n) = true := fun n hn => by unfold bV roomB; rw [arL_len]; simp; omega
  have eJ := fun (i : Nat) (hi : i < a) => (arJ_lt (f := valR) (R := R) hi).symm
  cases j with
  | zero =>
    rw [sVrj, rVr0, bcT (decide_eq_true (by omega)), chks_true (all2 (show ixN (0 : Int) a = true from ixN_nat hj) (show inR (0 : Int) R = true from inR_nat (j := 0) (by omega))), show (0 : Int).toNat = 0 from rfl, chks_true (hc 0 hj), eJ 0 hj]; rfl
  | succ j =>
    rw [sVrj, rVr1, bcT (decide_eq_true (by omega)), chks_true (all2 (ixN_nat hj) (inR_nat (by omega))), Int.toNat_natCast, chks_true (hc _ hj), chks_true (by simpa using hb (j + 1) (by omega)), up1_nat (by omega), eJ (j + 1) hj, arL_succ]; rfl
theorem loopVR {mk md : Ent} (hT : TabOK Tryz.prog (tVr mk md valR isTx rdV)) (hR : okW a R) (ha : a ≤ 500) : Tri Tryz.prog (.loop loopVr) (sVr V e h w p0 p1 a R .nilslice [] 0).toA (.exit 0) (xVr V e h w p0 p1 a R a).toA 1 := by
  have key := loop_rounds (ent_sound hT host nolv_ok (NF := 64) (m := 1) 20) (NF := 64) (m := 1) (x := loopVr) (K := 1) loops_none (fun n => hasN [1, 2, 3, 9, 11, 12, 13, 14, 15, 16, 17] n) (fun n => hasN [1, 2, 3, 9, 11, 12, 13, 14, 15, 16] n) (ι := { j : Nat // j ≤ a }) (fun j => sVrj V e h w p0 p1 a R j.1) (fun j => a - j.1) (fun j => (.exit 0, xVr V e h w p0 p1 a R a)) ?_ (fun j => by simp) ⟨0, Nat.zero_le _⟩
  · exact key
  rintro ⟨j, hj⟩
  simp only
  by_cases hl : j < a
  · exact .inl ⟨⟨j + 1, hl⟩, by simp only; omega, trivial, roundVr hR ha j hl⟩
  · obtain rfl : j = a := by omega
    cases j with
    | zero => right; rw [sVrj, rVr0, bcF (decide_eq_false (by omega))]; rfl
    | succ j => right; rw [sVrj, rVr1, bcF (decide_eq_false (by omega))]; rfl
end
theorem okRows_aa {a : Nat} {R : List (List CV)} (ha : a ≤ 500) : okRows a (arL valR a R a) := ⟨by rw [arL_len]; omega, by omega, fun i hi => by rw [arL_at hi]; exact (arJ_ok a R i).1⟩
theorem rigL_ar {a N : Nat} {R : List (List CV)} : RigL N (arL valR a R N) := ⟨by rw [arL_len]; omega, fun j hj => by rw [arL_at hj]; exact (arJ_ok a R j).2⟩
theorem rightA_sz {h w : Int} {a : Nat} {M : List (List CV)} (hM : RigL a M) : rightA isTx 0 0 [] false 0 h w 0 a M = szB h w a := by
  unfold rightA gridB
  rw [rigFrom_of a 0 fun j _ hj => hM.2 j (by omega), Bool.and_true]
  show (decide (1 ≤ h ∧ 1 ≤ w ∧ w ≤ 400 / h ∧ (a : Int) = h * w) && true) = _
  rw [Bool.and_true]; rfl
theorem eq_take {a : Nat} {M : List (List CV)} (hM : a ≤ M.length) : eqRows a a (cpR M a) (M.take a) = true := by
  unfold eqRows
  rw [Nat.beq_refl, eqFrom_of a 0 fun j _ hj => ?_]; rfl
  rw [cpR_at (by omega)]
  have : Sx.rowAt (M.take a) j = Sx.rowAt M j := by
    unfold Sx.rowAt
    rw [List.getD_eq_getElem?_getD, List.getD_eq_getElem?_getD, List.getElem?_take_of_lt (by omega)]
  rw [this]; exact samR_nrm _
open Classical in
theorem qVr_run {H W i j : Int} {N : Nat} {L : List (List CV)} (hL : RigL N L) (hN : N < 1000000000) {X : Ans} {r : Option (AV × List PObj)} (hX : X.run pure2 = r) : (qVr isTx H W i j N L X).run pure2 = r := by
  have e : gVr isTx H W i j N L = dVr H W i j N L := by unfold gVr dVr getA; rw [rightA_sz hL]
  unfold qVr
  rw [chkT (decide_eq_true ⟨hL, hN⟩), e]
  exact ps_run rfl hX
open Classical in
theorem midVr_run {V : List CV} {e h w p0 p1 : Int} {a : Nat} {R : List (List CV)} (hh : inI h = true) (hw : inI w = true) (h0 : inI p0 = true) (h1 : inI p1 = true) (hR : okW a R) (hV : rigR isTx V = true) {X : Ans} {r : Option (AV × List PObj)} (hX : X.run pure2 = r) :
    (midVr isTx V e h w p0 p1 a R (nA h w) (arL valR a R (nA h w)) X).run pure2 = r := by
  obtain ⟨n1, n2, n3⟩ := nA_bd h w
  have ol := okRows_ar (a := a) (R := R) n3
  have c := rightF_facts hV
  have hL : RigL (nA h w) (arL valR a R (nA h w)) := rigL_ar
  unfold midVr oVr
  rw [chkT hh, chkT hw, chkT (decide_eq_true hR), chkT (decide_eq_true ol)]
  refine qVr_run hL (by omega) ?_
  rw [chkT (decide_eq_true c.1), chkT (decide_eq_true (by omega)), chkT (decide_eq_true c.1), chkT hV, hV]
  refine ps_run rfl ?_
  rw [chkT h0, chkT h1, chkT (decide_eq_true ol), chkT h0, chkT h1]
  refine qVr_run hL (by omega) ?_
  refine ps_run rfl ?_
  rw [brT (beq_self_eq_true e)]
  exact hX
theorem tVr_ok {mk md : Ent} (hm : EntOK Tryz.prog 19 mk) (hd : EntOK Tryz.prog 20 md) (hf : EntOK Tryz.prog 12 (eVal valR)) (ha : EntOK Tryz.prog 11 eTrue) : TabOK Tryz.prog (tVr mk md valR isTx rdV) :=
  .cons ha (.cons hf (.cons (eArr_ok hf) (.cons eRdV_ok (.cons eRr_ok (.cons hm (.cons hd (.cons (eGet_ok eIsT_ok) (.cons eGeD_ok (.cons eSdC_ok (.cons ePick_ok .nil))))))))))
open Classical in
theorem vr_meets {z : List UInt8} {h w p0 p1 : Int} {a : Nat} {R : List (List CV)} (hh : inI h = true) (hw : inI w = true) (h0 : inI p0 = true) (h1 : inI p1 = true) (hR : okW a R) (hf : EntOK Tryz.prog 12 (eVal valR)) (ha : EntOK Tryz.prog 11 eTrue) :
    Meets Tryz.prog 4 [.str z, .int .i64 h, .int .i64 w, .dsl 0 a, .agg [.int .i64 p0, .int .i64 p1]] [.flatR false shW R] (.bool true) [.flatR false shW R] := by
  have hV := (rd_rig z).1
  have head : ∀ {X : Ans}, (z.length ≤ 300 → a ≤ 500 → X.run pure2 = pure2 (.bool true) [fW R]) → (headVr (rdV z).1 (rdV z).2 h w p0 p1 a R z true X).run pure2 = pure2 (.bool true) [fW R] := by
    intro X hX
    unfold headVr
    by_cases c1 : (z.length : Int) > 300
    · rw [brT (decide_eq_true c1)]; rfl
    · rw [brF (decide_eq_false c1)]
      by_cases c2 : (a : Int) > 500
      · rw [brT (decide_eq_true c2)]; rfl
      · rw [brF (decide_eq_false c2), chkT (decide_eq_true (by omega)), chkT (decide_eq_true (by omega)), chkT (eqSt_refl _), chkT rfl]
        exact hX (by omega) (by omega)
  by_cases big : a ≤ 500
  · have hM : RigL a (arL valR a R a) := rigL_ar
    by_cases hz : a = 0
    · subst hz
      have T := tVr_ok eMaN_ok eMdN_ok hf ha
      refine meets_ent (pre := [fW R]) (post := [fW R]) T host ((vr_nil valR isTx rdV h w p0 p1 0 R z true).trans (head fun _ _ => ?_)) (lvOne_ok (x := loopVr) Tryz.func4 (by kernel_rfl) fun K t => eAt_ok (a := outVr (rdV z).1 (rdV z).2 h w p0 p1 0 R .nilslice [] true) ⟨fun _ => loopVR T hR (by omega), fun _ => trivial⟩ K t)
      rw [chkT (by rw [hh, hw]; rfl), chkT (by rw [hh, hw]; rfl)]
      exact midVr_run hh hw h0 h1 hR hV rfl
    · have lp : ∀ {mk md : Ent}, TabOK Tryz.prog (tVr mk md valR isTx rdV) → Tri Tryz.prog (.loop loopVr) (sVr (rdV z).1 (rdV z).2 h w p0 p1 a R .nilslice [] 0).toA (.exit 0) (sVrX (rdV z).1 (rdV z).2 h w p0 p1 a R (.vec 4 a) [some (vR34 (arL valR a R a))]).toA 1 := fun hT => by
        have key := loopVR (V := (rdV z).1) (e := (rdV z).2) (h := h) (w := w) (p0 := p0) (p1 := p1) hT hR big
        cases a with
        | zero => exact absurd rfl hz
        | succ n => exact key
      cases hs : szB h w a with
      | true =>
        have T := tVr_ok (eMaT_ok eIsT_ok) eMdT_ok hf ha
        refine meets_ent (pre := [fW R]) (post := [fW R]) T host ((vr_yes valR isTx rdV h w p0 p1 a R z true (arL valR a R a)).trans (head fun _ _ => ?_)) (lvOne_ok (x := loopVr) Tryz.func4 (by kernel_rfl) fun K t => eAt_ok (a := outVr (rdV z).1 (rdV z).2 h w p0 p1 a R (.vec 4 a) [some (vR34 (arL valR a R a))] true) ⟨fun _ => lp T, fun _ => trivial⟩ K t)
        rw [chkT (decide_eq_true (okRows_aa big)), chkT (by rw [rightA_sz hM]; exact hs), chkT (decide_eq_true ⟨hM, by omega, by omega⟩), chkT hs]
        refine midVr_run hh hw h0 h1 hR hV ?_
        rw [chkT (decide_eq_true ⟨by rw [cpR_len]; omega, by rw [List.length_take]; have := hM.1; omega, by omega⟩), chkT (by rw [sameF_refl, eq_take hM.1]; rfl)]; rfl
      | false =>
        have T := tVr_ok (eMaF_ok eIsT_ok) eMdF_ok hf ha
        refine meets_ent (pre := [fW R]) (post := [fW R]) T host ((vr_no valR isTx rdV h w p0 p1 a R z true (arL valR a R a)).trans (head fun _ _ => ?_)) (lvOne_ok (x := loopVr) Tryz.func4 (by kernel_rfl) fun K t => eAt_ok (a := outVr (rdV z).1 (rdV z).2 h w p0 p1 a R (.vec 4 a) [some (vR34 (arL valR a R a))] true) ⟨fun _ => lp T, fun _ => trivial⟩ K t)
        rw [chkT (decide_eq_true (okRows_aa big)), chkT (by rw [rightA_sz hM, hs]; rfl), chkT (decide_eq_true ⟨hM, by omega, by omega⟩), chkT (by rw [hs]; rfl)]
        exact midVr_run hh hw h0 h1 hR hV rfl
  · -- more than 500: nothing is looked at
    have T := tVr_ok eMaN_ok eMdN_ok hf ha
    refine meets_ent (pre := [fW R]) (post := [fW R]) T host ((vr_nil valR isTx rdV h w p0 p1 a R z false).trans (by
      unfold headVr
      by_cases c1 : (z.length : Int) > 300
      · rw [brT (decide_eq_true c1)]; rfl
      · rw [brF (decide_eq_false c1), brT (decide_eq_true (by omega))]; rfl)) (lvOne_ok (x := loopVr) Tryz.func4 (by kernel_rfl) fun K t => eAt_ok (a := outVr (rdV z).1 (rdV z).2 h w p0 p1 a R .nilslice [] false) ⟨fun g => (by cases g), fun _ => trivial⟩ K t)
end Go.Proofs.YtdomenmfkbfakaaGreatDoor
