/- Law 3: what is made of an array (ValMade): it is so. -/
import Derived.Test.YtdomenmfkbfakaaGreatDoorGr09
import Derived.Test.YtdomenmfkbfakaaGreatDoorGr07
set_option linter.unusedVariables false
set_option linter.unusedSimpArgs false
namespace Go.Proofs.YtdomenmfkbfakaaGreatDoor
open Go Sx
theorem sameF_refl (k m e : Int) (s : List UInt8) (b : Bool) (r h w f : Int) : sameF k m e s b r h w f k m e s b r h w f = true := by unfold sameF; simp
theorem samR_nrm (x : List CV) : samR (nrm x) x = true := sameF_refl ..
theorem eqFrom_of {R S : List (List CV)} : ∀ (n i : Nat), (∀ j, i ≤ j → j < i + n → samR (Sx.rowAt R j) (Sx.rowAt S j) = true) → eqFrom R S n i = true
  | 0, _, _ => rfl
  | n + 1, i, h => by rw [eqFrom, h i (Nat.le_refl _) (by omega), eqFrom_of n (i + 1) fun j h1 h2 => h j (by omega) (by omega)]; rfl
theorem rigFrom_of {tx : List UInt8 → Bool} {R : List (List CV)} : ∀ (n i : Nat), (∀ j, i ≤ j → j < i + n → rigR tx (Sx.rowAt R j) = true) → rigFrom tx R n i = true
  | 0, _, _ => rfl
  | n + 1, i, h => by rw [rigFrom, h i (Nat.le_refl _) (by omega), rigFrom_of n (i + 1) fun j h1 h2 => h j (by omega) (by omega)]; rfl
theorem zR_ok : plR zR = true ∧ rigR isTx zR = true := ⟨by kernel_rfl, by kernel_rfl⟩
theorem arJ_ok (a : Nat) (R : List (List CV)) (i : Nat) : plR (arJ valR a R i) = true ∧ rigR isTx (arJ valR a R i) = true := by
  unfold arJ
  cases Nat.beq a 0 with
  | true => exact zR_ok
  | false => exact valR_ok _ _ _ _ _
section
variable {a : Nat} {R : List (List CV)} {N : Nat}
theorem okRows_ar (hN : N ≤ 25) : okRows N (arL valR a R N) := ⟨by rw [arL_len]; omega, by omega, fun i hi => by rw [arL_at hi]; exact (arJ_ok a R i).1⟩
theorem okRows_cp (hN : N ≤ 25) : okRows N (cpR (arL valR a R N) N) := ⟨by rw [cpR_len]; omega, by omega, fun i hi => by rw [cpR_at hi, arL_at hi]; exact (arJ_ok a R i).1⟩
theorem rig_ar : rigFrom isTx (arL valR a R N) N 0 = true := rigFrom_of N 0 fun j _ h => by rw [arL_at (by omega)]; exact (arJ_ok a R j).2
theorem rig_cp : rigFrom isTx (cpR (arL valR a R N) N) N 0 = true := rigFrom_of N 0 fun j _ h => by rw [cpR_at (by omega), arL_at (by omega)]; exact (arJ_ok a R j).2
theorem eq_cp : eqFrom (cpR (arL valR a R N) N) (arL valR a R N) N 0 = true := eqFrom_of N 0 fun j _ h => by rw [cpR_at (by omega)]; exact samR_nrm _
end
theorem sz5_bd (h : Int) : 1 ≤ sz5 h ∧ sz5 h ≤ 5 := by have := pickS_bd (a := h) (n := 5) (by decide); unfold sz5; omega
theorem div_400 {h w : Int} (h1 : 1 ≤ h ∧ h ≤ 5) (h2 : 1 ≤ w ∧ w ≤ 5) : w ≤ 400 / h := by
  have : h = 1 ∨ h = 2 ∨ h = 3 ∨ h = 4 ∨ h = 5 := by omega
  rcases this with rfl | rfl | rfl | rfl | rfl <;> omega
theorem grid_ok {h w : Int} {N : Nat} {L : List (List CV)} (h1 : 1 ≤ h ∧ h ≤ 5) (h2 : 1 ≤ w ∧ w ≤ 5) (hN : (N : Int) = h * w) (hr : rigFrom isTx L N 0 = true) : rightA isTx 0 0 [] false 0 h w 0 N L = true := by
  unfold rightA gridB
  rw [decide_eq_true ⟨h1.1, h2.1, div_400 h1 h2, hN⟩, hr]; rfl
/-- What stands at a place of an array. -/
theorem atG_at {H W : Int} {N : Nat} {M : List (List CV)} (h1 : 1 ≤ H) (h2 : 1 ≤ W) (hN : (N : Int) = H * W) (h25 : N ≤ 25) {j : Nat} (hj : j < N) : atG H W M (w64 (Int.tdiv (j : Int) W)) (Int.tmod (j : Int) W) = Sx.rowAt M j := by
  obtain ⟨v, rfl⟩ : ∃ v : Nat, W = (v : Int) := ⟨W.toNat, by omega⟩
  obtain ⟨u, rfl⟩ : ∃ u : Nat, H = (u : Int) := ⟨H.toNat, by omega⟩
  have hN : N = u * v := by exact_mod_cast hN
  have e1 : Int.tdiv (j : Int) (v : Int) = ((j / v : Nat) : Int) := rfl
  have e2 : Int.tmod (j : Int) (v : Int) = ((j % v : Nat) : Int) := rfl
  have d1 : j / v < u := (Nat.div_lt_iff_lt_mul (by omega)).2 (by rw [← hN]; exact hj)
  have d2 : j % v < v := Nat.mod_lt _ (by omega)
  have d3 : v * (j / v) + j % v = j := Nat.div_add_mod j v
  have d4 : j / v ≤ j := Nat.div_le_self ..
  rw [e1, e2]
  generalize j / v = q at *
  generalize j % v = r at *
  rw [w64_of (inI_iff.2 ⟨by omega, by omega⟩)]
  have c1 : (if (u : Int) = 1 then (0 : Int) else (q : Int)) = (q : Int) := by
    split
    · rename_i h; have : q = 0 := by omega
      rw [this]; rfl
    · rfl
  have c2 : (if (v : Int) = 1 then (0 : Int) else (r : Int)) = (r : Int) := by
    split
    · rename_i h; have : r = 0 := by omega
      rw [this]; rfl
    · rfl
  unfold atG
  simp only [c1, c2]
  rw [if_neg (by omega)]
  have : (q : Int) * (v : Int) + (r : Int) = (j : Int) := by
    rw [Int.mul_comm]; exact_mod_cast d3
  rw [this, Int.toNat_natCast]
/-- Beyond an array there is an error, where it has more than one. -/
theorem atG_end {H W : Int} {M : List (List CV)} {i : Int} (h1 : 1 ≤ H) (h2 : 1 ≤ W) (hi : H ≤ i) : (H = 1 → atG H W M i 0 = Sx.rowAt M 0) ∧ (1 < H → atG H W M i 0 = errR 7) := by
  have c2 : (if W = 1 then (0 : Int) else 0) = 0 := by split <;> rfl
  refine ⟨fun e => ?_, fun e => ?_⟩
  · unfold atG; simp only [c2, if_pos e]; rw [if_neg (by omega), Int.zero_mul]; rfl
  · unfold atG; simp only [c2, if_neg (show H ≠ 1 by omega)]; rw [if_pos (by omega)]
theorem atG_end' {H W : Int} {M : List (List CV)} {j : Int} (h1 : 1 ≤ H) (h2 : 1 ≤ W) (hj : W ≤ j) : (W = 1 → atG H W M 0 j = Sx.rowAt M 0) ∧ (1 < W → atG H W M 0 j = errR 7) := by
  have c2 : (if H = 1 then (0 : Int) else 0) = 0 := by split <;> rfl
  refine ⟨fun e => ?_, fun e => ?_⟩
  · unfold atG; simp only [c2, if_pos e]; rw [if_neg (by omega), Int.zero_mul]; rfl
  · unfold atG; simp only [c2, if_neg (show W ≠ 1 by omega)]; rw [if_pos (by omega)]
theorem endT_run {N : Nat} {L : List (List CV)} {G : Int} {g : List CV} {X Y Z : Ans} {r : Option (AV × List PObj)} (hN : 0 < N) (hL : N ≤ L.length) (h1 : 1 ≤ G) (ha : G = 1 → samR g (Sx.rowAt L 0) = true) (hX : X.run pure2 = r) (hb : 1 < G → Y.run pure2 = r) : (endT N L G g X Y Z).run pure2 = r := by
  unfold endT
  by_cases h : G = 1
  · rw [brT (beq_iff_eq.2 h), chkT (show ixN (0 : Int) N = true from ixN_nat hN), chkT (show inR (0 : Int) L = true from inR_nat (j := 0) (by omega)), brT (ha h)]; exact hX
  · rw [brF (beq_eq_false_iff_ne.2 h), brT (decide_eq_true (by omega))]; exact hb (by omega)
section
variable {H W n : Int} {N : Nat} {R L M : List (List CV)} (h1 : 1 ≤ H ∧ H ≤ 5) (h2 : 1 ≤ W ∧ W ≤ 5) (hN : (N : Int) = H * W) (h25 : N ≤ 25) (h0 : 1 ≤ N) (hL : okRows N L) (hM : okRows N M) (rL : rigFrom isTx L N 0 = true) (rM' : rigFrom isTx M N 0 = true) (hs : ∀ i, i < N → samR (Sx.rowAt M i) (Sx.rowAt L i) = true)
include h1 h2 hN h25 h0 hL hM rL rM' hs
set_option linter.unusedSectionVars false in
theorem rwM_of (i j : Int) : rwM isTx H W N M i j = atG H W M i j := by
  unfold rwM getA; rw [grid_ok h1 h2 hN rM']; rfl
open Classical in
theorem tail_true (hn : inI n = true) : (tailT isTx H W n N R L M).run pure2 = pure2 (.bool true) [fW R] := by
  have bp := pickS_bd (a := n) (n := 1000) (by decide)
  unfold tailT
  rw [chkT hn, chkT (decide_eq_true hM), chkT (decide_eq_true hM), chkT (decide_eq_true hL), brF (by
    unfold rightA gridB
    rw [w64_of (inI_iff.2 ⟨by omega, by omega⟩), decide_eq_false (fun c => ?_)]; rfl
    have := c.2.2.2
    rw [Int.add_mul, Int.one_mul, ← hN] at this
    omega)]
  simp only [rwM_of h1 h2 hN h25 h0 hL hM rL rM' hs]
  rw [w64_of (a := H + pickS n 1000) (inI_iff.2 ⟨by omega, by omega⟩), w64_of (a := W + pickS n 1000) (inI_iff.2 ⟨by omega, by omega⟩)]
  have g1 := atG_end (M := M) h1.1 h2.1 (i := H + pickS n 1000) (by omega)
  have g2 := atG_end' (M := M) h1.1 h2.1 (j := W + pickS n 1000) (by omega)
  have hX : (endT N L W (atG H W M 0 (W + pickS n 1000)) (fwB R true) (fwB R (rr (atG H W M 0 (W + pickS n 1000)) == 7)) (fwB R false)).run pure2 = pure2 (.bool true) [fW R] :=
    endT_run h0 hL.1 h2.1 (fun e => by rw [g2.1 e]; exact hs 0 h0) rfl fun e => by rw [g2.2 e]; rfl
  exact endT_run h0 hL.1 h1.1 (fun e => by rw [g1.1 e]; exact hs 0 h0) hX fun e => by rw [g1.2 e, brT (show (rr (errR 7) == 7) = true from rfl)]; exact hX
set_option linter.unusedSectionVars false in
open Classical in
theorem loopMd (f : FV) (hf : EntOK Tryz.prog 12 (eVal f)) (ha : EntOK Tryz.prog 11 eTrue) : Tri Tryz.prog (.loop loopMd1) (sM H W n N R L M 0).toA (.exit 0) (sMX H W n N R L M).toA 1 := by
  have key := loop_rounds (ent_sound (T := tMd isTx f) (.cons ha (.cons (eArr_ok hf) (.cons (eMak_ok eIsT_ok) (.cons eSam_ok (.cons (eGet_ok eIsT_ok) (.cons ePick_ok .nil)))))) host nolv_ok (NF := 64) (m := 1) 20) (NF := 64) (m := 1) (x := loopMd1) (K := 1) loops_none (fun n => hasN [3, 9, 10, 11, 13] n) (fun n => hasN [3, 9, 10, 11] n) (ι := { j : Nat // j ≤ N }) (fun j => sM H W n N R L M (j.1 : Int)) (fun j => N - j.1) (fun j => (.exit 0, sMX H W n N R L M)) ?_ (fun j => by simp) ⟨0, Nat.zero_le _⟩
  · exact key
  rintro ⟨j, hj⟩
  simp only
  have rd := rM isTx H W n N R L M f (j : Int)
  by_cases hl : j < N
  · rw [bcT (decide_eq_true (by omega)), chks_true (by
      have a1 : (W != 0) = true := bne_iff_ne.2 (by omega)
      simp only [List.mem_cons, List.not_mem_nil, or_false]
      rintro c (rfl | rfl | rfl | rfl | rfl)
      · exact a1
      · exact a1
      · exact decide_eq_true hM
      · exact ixN_nat hl
      · exact inR_nat (by have := hL.1; omega)), up1_nat (by omega), Int.toNat_natCast] at rd
    have e : gM isTx H W N M (j : Int) = Sx.rowAt M j := by
      unfold gM getA; rw [grid_ok h1 h2 hN rM']; exact atG_at h1.1 h2.1 hN h25 hl
    rw [e, hs j hl] at rd
    exact .inl ⟨⟨j + 1, hl⟩, by simp only; omega, trivial, rd⟩
  · rw [bcF (decide_eq_false (by omega))] at rd
    exact .inr rd
end
open Classical in
theorem md_meets {h w n : Int} {a : Nat} {R : List (List CV)} (hh : inI h = true) (hw : inI w = true) (hn : inI n = true) (hR : okW a R) (hf : EntOK Tryz.prog 12 (eVal valR)) (ha : EntOK Tryz.prog 11 eTrue) :
    Meets Tryz.prog 9 [.int .i64 h, .int .i64 w, .dsl 0 a, .int .i64 n] [.flatR false shW R] (.bool true) [.flatR false shW R] := by
  have b1 := sz5_bd h
  have b2 := sz5_bd w
  obtain ⟨n1, n2, n3⟩ := nA_bd h w
  have key := md_comes isTx valR h w n a R true
  have rl := rig_ar (a := a) (R := R) (N := nA h w)
  have rc := rig_cp (a := a) (R := R) (N := nA h w)
  have ol := okRows_ar (a := a) (R := R) n3
  have oc := okRows_cp (a := a) (R := R) n3
  have ec := eq_cp (a := a) (R := R) (N := nA h w)
  have hs : ∀ i, i < nA h w → samR (Sx.rowAt (cpR (arL valR a R (nA h w)) (nA h w)) i) (Sx.rowAt (arL valR a R (nA h w)) i) = true := fun i hi => by rw [cpR_at hi]; exact samR_nrm _
  generalize cpR (arL valR a R (nA h w)) (nA h w) = M at *
  generalize arL valR a R (nA h w) = L at *
  refine meets_ent (pre := [fW R]) (post := [fW R]) (.cons ha (.cons (eArr_ok hf) (.cons (eMak_ok eIsT_ok) (.cons eSam_ok (.cons (eGet_ok eIsT_ok) (.cons ePick_ok .nil)))))) host (key.trans ?_) (lvOne_ok (x := loopMd1) Tryz.func9 (by kernel_rfl) fun K t => eAt_ok (a := outMd (sz5 h) (sz5 w) n (nA h w) R L M true) ⟨fun _ => loopMd b1 b2 n1 n3 n2 ol oc rl rc hs valR hf ha, fun _ => trivial⟩ K t)
  rw [chkT hh, chkT hw, chkT (decide_eq_true hR), chkT (decide_eq_true ol), brT (grid_ok b1 b2 n1 rl), chkT (decide_eq_true ⟨oc.1, ol.1, by omega⟩), brF (by unfold eqRows; rw [sameF_refl, Nat.beq_refl, ec]; rfl), chkT (eqSt_refl _), chkT rfl]
  exact tail_true b1 b2 n1 n3 n2 ol oc rl rc hs hn
end Go.Proofs.YtdomenmfkbfakaaGreatDoor

/- Layer 3: what is told of a value, by functions that tell of plain ones: the rounds. -/
set_option linter.unusedVariables false
set_option linter.unusedSimpArgs false
namespace Go.Proofs.YtdomenmfkbfakaaGreatDoor
open Go Sx
/-- A function that tells of a plain value, not looked into: of which values, and what. -/
def eAsk (q : List CV → Bool) (af : List CV → List CV) : Ent := fun args pre => match args, pre with
  | [.agg [.int .i64 k, .int .i64 m, .int .i64 e, .str s, .bool b, .int .i64 r, .int .i64 h, .int .i64 w, .nilslice, .int .i64 f, .nilslice, .nilslice]], [] => .chk (q (mkR k m e s b r h w f)) (.ret (vR (af (mkR k m e s b r h w f))) [])
  | _, _ => .fail
def inS (i : Int) (L : List (List CV)) : Bool := decide (i.toNat < L.length) && true && true && true
noncomputable abbrev loopTld : Code := (loopBodies (bodyOf Tryz.f71)).headD .skip

-- ToNum
section
variable (af : List CV → List CV) (q : List CV → Bool) (m e : Int) (s : List UInt8) (b : Bool) (r h w f : Int) (a : Nat) (R L : List (List CV))
def sDn (i : Int) : PState := ⟨none :: none :: some (.ptr 1 0) :: none :: some (.ptr 2 0) :: some (.func 110 [] [.ptr 3 0]) :: some (.vec 4 a) :: (nn 23 ++ some (.dsl 0 a) :: some (.int .i64 a) :: some (.int .i64 i) :: nn 17), some (fR R) :: some (vCells 5 m e s b r h w f (.dsl 0 a)) :: some (vCells 0 0 0 [] false 0 0 0 0 .nilslice) :: some (.raw (.cells [.func 72 [] []] 57)) :: some (vR34 L) :: nn 64⟩
def sDnX : PState := ⟨none :: none :: some (.ptr 1 0) :: none :: some (.ptr 2 0) :: none :: some (.vec 3 a) :: nn 43, some (fR R) :: some (vCells 5 m e s b r h w f (.dsl 0 a)) :: some (vCells 0 0 0 [] false 0 0 0 0 .nilslice) :: some (vR34 L) :: nn 64⟩
def tDn : Tab := [(72, eAsk q af)]
theorem rDn (i : Int) : code (ent Tryz.prog (tDn af q) nolv 64 1 20) Tryz.prog {} 1 64 1 loopTld (sDn m e s b r h w f a R L i) (endK 1 64 (fun n => hasN [2, 4, 5, 6, 30, 31, 32] n) (fun n => hasN [2, 4, 6] n))
  = bcond (decide (i < (a : Int))) (chks (bcond (rk (Sx.rowAt R i.toNat) == 4)
      (chks (some (.normal, sDn m e s b r h w f a R (L.set i.toNat (nrm (errR (rr (Sx.rowAt R i.toNat))))) (up1 i))) [ixN i a, inS i L])
      (chks (chks (some (.normal, sDn m e s b r h w f a R (L.set i.toNat (nrm (af (nrm (Sx.rowAt R i.toNat))))) (up1 i))) [ixN i a, inS i L]) [q (nrm (Sx.rowAt R i.toNat))])) [ixN i a, inR i R]) (some (.exit 0, sDnX m e s b r h w f a R L)) := by kernel_rfl
end

-- ToText
section
variable (af : List CV → List CV) (q : List CV → Bool) (m e : Int) (s : List UInt8) (b : Bool) (r h w f : Int) (a : Nat) (R L : List (List CV))
def sDt (i : Int) : PState := ⟨none :: none :: some (.ptr 1 0) :: none :: some (.ptr 2 0) :: some (.func 110 [] [.ptr 3 0]) :: some (.vec 4 a) :: (nn 23 ++ some (.dsl 0 a) :: some (.int .i64 a) :: some (.int .i64 i) :: nn 17), some (fR R) :: some (vCells 5 m e s b r h w f (.dsl 0 a)) :: some (vCells 0 0 0 [] false 0 0 0 0 .nilslice) :: some (.raw (.cells [.func 74 [] []] 57)) :: some (vR34 L) :: nn 64⟩
def sDtX : PState := ⟨none :: none :: some (.ptr 1 0) :: none :: some (.ptr 2 0) :: none :: some (.vec 3 a) :: nn 43, some (fR R) :: some (vCells 5 m e s b r h w f (.dsl 0 a)) :: some (vCells 0 0 0 [] false 0 0 0 0 .nilslice) :: some (vR34 L) :: nn 64⟩
def tDt : Tab := [(74, eAsk q af)]
theorem rDt (i : Int) : code (ent Tryz.prog (tDt af q) nolv 64 1 20) Tryz.prog {} 1 64 1 loopTld (sDt m e s b r h w f a R L i) (endK 1 64 (fun n => hasN [2, 4, 5, 6, 30, 31, 32] n) (fun n => hasN [2, 4, 6] n))
  = bcond (decide (i < (a : Int))) (chks (bcond (rk (Sx.rowAt R i.toNat) == 4)
      (chks (some (.normal, sDt m e s b r h w f a R (L.set i.toNat (nrm (errR (rr (Sx.rowAt R i.toNat))))) (up1 i))) [ixN i a, inS i L])
      (chks (chks (some (.normal, sDt m e s b r h w f a R (L.set i.toNat (nrm (af (nrm (Sx.rowAt R i.toNat))))) (up1 i))) [ixN i a, inS i L]) [q (nrm (Sx.rowAt R i.toNat))])) [ixN i a, inR i R]) (some (.exit 0, sDtX m e s b r h w f a R L)) := by kernel_rfl
end

-- ToBool
section
variable (af : List CV → List CV) (q : List CV → Bool) (m e : Int) (s : List UInt8) (b : Bool) (r h w f : Int) (a : Nat) (R L : List (List CV))
def sDb (i : Int) : PState := ⟨none :: none :: some (.ptr 1 0) :: none :: some (.ptr 2 0) :: some (.func 110 [] [.ptr 3 0]) :: some (.vec 4 a) :: (nn 23 ++ some (.dsl 0 a) :: some (.int .i64 a) :: some (.int .i64 i) :: nn 17), some (fR R) :: some (vCells 5 m e s b r h w f (.dsl 0 a)) :: some (vCells 0 0 0 [] false 0 0 0 0 .nilslice) :: some (.raw (.cells [.func 76 [] []] 57)) :: some (vR34 L) :: nn 64⟩
def sDbX : PState := ⟨none :: none :: some (.ptr 1 0) :: none :: some (.ptr 2 0) :: none :: some (.vec 3 a) :: nn 43, some (fR R) :: some (vCells 5 m e s b r h w f (.dsl 0 a)) :: some (vCells 0 0 0 [] false 0 0 0 0 .nilslice) :: some (vR34 L) :: nn 64⟩
def tDb : Tab := [(76, eAsk q af)]
theorem rDb (i : Int) : code (ent Tryz.prog (tDb af q) nolv 64 1 20) Tryz.prog {} 1 64 1 loopTld (sDb m e s b r h w f a R L i) (endK 1 64 (fun n => hasN [2, 4, 5, 6, 30, 31, 32] n) (fun n => hasN [2, 4, 6] n))
  = bcond (decide (i < (a : Int))) (chks (bcond (rk (Sx.rowAt R i.toNat) == 4)
      (chks (some (.normal, sDb m e s b r h w f a R (L.set i.toNat (nrm (errR (rr (Sx.rowAt R i.toNat))))) (up1 i))) [ixN i a, inS i L])
      (chks (chks (some (.normal, sDb m e s b r h w f a R (L.set i.toNat (nrm (af (nrm (Sx.rowAt R i.toNat))))) (up1 i))) [ixN i a, inS i L]) [q (nrm (Sx.rowAt R i.toNat))])) [ixN i a, inR i R]) (some (.exit 0, sDbX m e s b r h w f a R L)) := by kernel_rfl
end
end Go.Proofs.YtdomenmfkbfakaaGreatDoor

/- Layer 3: what is told of a value, by functions that tell of plain ones: what comes of it. -/
set_option linter.unusedVariables false
set_option linter.unusedSimpArgs false
namespace Go.Proofs.YtdomenmfkbfakaaGreatDoor
open Go Sx
def zR0 : List CV := mkR 0 0 0 [] false 0 0 0 0
def mkB (a : Nat) : Bool := decide (0 ≤ (a : Int) ∧ (a : Int) = (a : Int) ∧ (a : Int) * ((152 : Nat) : Int) ≤ 281474976710656 ∧ (a : Int) < 9223372036854775808) && true
noncomputable def tTl (tx : List UInt8 → Bool) : Tab := [(27, eRig tx)]
def rowA (x : List CV) : Ans := .ret (vR x) []
/-- What is told of one value of an array. -/
def oneF (af : List CV → List CV) (x : List CV) : List CV := bcond (rk x == 4) (nrm (errR (rr x))) (nrm (af (nrm x)))
def tldL (af : List CV → List CV) (a : Nat) (R : List (List CV)) : Nat → List (List CV)
  | 0 => List.replicate a zR0
  | n + 1 => (tldL af a R n).set n (oneF af (Sx.rowAt R n))
theorem tldL_len (af : List CV → List CV) (a : Nat) (R : List (List CV)) : ∀ n, (tldL af a R n).length = a
  | 0 => by simp [tldL]
  | n + 1 => by rw [tldL, List.length_set, tldL_len af a R n]
theorem tldL_at {af : List CV → List CV} {a : Nat} {R : List (List CV)} : ∀ (n i : Nat), i < n → n ≤ a → Sx.rowAt (tldL af a R n) i = oneF af (Sx.rowAt R i)
  | n + 1, i, hi, hn => by
    have hl := tldL_len af a R n
    by_cases e : i = n
    · subst e
      simp [tldL, Sx.rowAt, List.getD_eq_getElem?_getD, List.getElem?_set, hl, show i < a by omega]
    · have ih := tldL_at (af := af) (a := a) (R := R) n i (by omega) (by omega)
      rw [← ih]
      simp [tldL, Sx.rowAt, List.getD_eq_getElem?_getD, List.getElem?_set, Ne.symm e]
def okD (q : List CV → Bool) (a : Nat) (R : List (List CV)) : Prop := a ≤ R.length ∧ a < 1000000000 ∧ ∀ i, i < a → (rk (Sx.rowAt R i) == 4) = true ∨ q (nrm (Sx.rowAt R i)) = true

-- ToNum
section
variable (af : List CV → List CV) (q : List CV → Bool) (tx : List UInt8 → Bool) (k m e : Int) (s : List UInt8) (b : Bool) (r h w f : Int) (a : Nat) (R L : List (List CV))
def outDn (ok : Bool) : LAns := .chk ok (.out (.exit 0) (sDnX m e s b r h w f a R L))
noncomputable def lvDn (ok : Bool) : FuncId → Lv := lvOf 71 (fun _ => some [2, 4, 5, 6, 30, 31, 32]) (oneL 8 (eAt 1 (sDn m e s b r h w f a R (List.replicate a zR0) 0) (outDn m e s b r h w f a R L ok)))
open Classical in
theorem tldn_a (ok : Bool) : Comes (tTl tx) (lvDn m e s b r h w f a R L ok) 71 [vL 5 m e s b r h w (.dsl 0 a) f, .func 72 [] []] [fR R]
  (.chk (decide (okRows a R)) (.br (!(rightA tx m e s b r h w f a R)) (errT 3 [fR R]) (.chk (mkB a) (.chk (eqSt (sDn m e s b r h w f a R (List.replicate a zR0) 0) (sDn m e s b r h w f a R (List.replicate a zR0) 0)) (.chk ok (.ret (vL 5 0 0 [] false 0 h w (.vec 1 a) 0) [fR R, vR34 L])))))) := by unfold Comes; kernel_rfl
noncomputable def tTpn : Tab := (72, eAsk q af) :: tTl tx
theorem tldn_p (hk : k = 0 ∨ k = 1 ∨ k = 2 ∨ k = 3) : Comes (tTpn af q tx) nolv 71 [vL k m e s b r h w .nilslice f, .func 72 [] []] []
  (.chk (decide (s.length ≤ 1000000)) (.br (!(rightF tx k m e s b r h w f)) (errT 3 []) (.chk (q (mkR k m e s b r h w f)) (rowA (af (mkR k m e s b r h w f)))))) := by rcases hk with rfl | rfl | rfl | rfl <;> (unfold Comes; kernel_rfl)
theorem tldn_4 : Comes (tTpn af q tx) nolv 71 [vL 4 m e s b r h w .nilslice f, .func 72 [] []] []
  (.chk (decide (s.length ≤ 1000000)) (.br (!(rightF tx 4 m e s b r h w f)) (errT 3 []) (errT r []))) := by unfold Comes; kernel_rfl
end
section
variable {af : List CV → List CV} {q : List CV → Bool} {m e : Int} {s : List UInt8} {b : Bool} {r h w f : Int} {a : Nat} {R : List (List CV)}
theorem loopDn (hq : EntOK Tryz.prog 72 (eAsk q af)) (hR : okD q a R) : Tri Tryz.prog (.loop loopTld) (sDn m e s b r h w f a R (List.replicate a zR0) 0).toA (.exit 0) (sDnX m e s b r h w f a R (tldL af a R a)).toA 1 := by
  obtain ⟨hl, hs, hp⟩ := hR
  have key := loop_rounds (ent_sound (T := tDn af q) (.cons hq .nil) host nolv_ok (NF := 64) (m := 1) 20) (NF := 64) (m := 1) (x := loopTld) (K := 1) loops_none (fun n => hasN [2, 4, 5, 6, 30, 31, 32] n) (fun n => hasN [2, 4, 6] n) (ι := { j : Nat // j ≤ a }) (fun j => sDn m e s b r h w f a R (tldL af a R j.1) (j.1 : Int)) (fun j => a - j.1) (fun j => (.exit 0, sDnX m e s b r h w f a R (tldL af a R a))) ?_ (fun j => by simp) ⟨0, Nat.zero_le _⟩
  · exact key
  rintro ⟨j, hj⟩
  simp only
  have rd := rDn af q m e s b r h w f a R (tldL af a R j) (j : Int)
  by_cases hlt : j < a
  · have i1 : ixN (j : Int) a = true := ixN_nat hlt
    have i2 : inS (j : Int) (tldL af a R j) = true := by unfold inS; rw [Int.toNat_natCast, tldL_len, decide_eq_true hlt]; rfl
    rw [bcT (decide_eq_true (by omega)), chks_true (all2 i1 (inR_nat (by omega))), chks_true (all2 i1 i2), chks_true (all2 i1 i2), up1_nat (by omega), Int.toNat_natCast] at rd
    refine .inl ⟨⟨j + 1, hlt⟩, by simp only; omega, trivial, ?_⟩
    rw [rd, tldL, oneF]
    cases h4 : rk (Sx.rowAt R j) == 4 with
    | true => rfl
    | false =>
      rcases hp j hlt with h | h
      · rw [h] at h4; cases h4
      · rw [chks_true (by simpa using h)]; rfl
  · obtain rfl : j = a := by omega
    rw [bcF (decide_eq_false (by omega))] at rd
    exact .inr rd
end

-- ToText
section
variable (af : List CV → List CV) (q : List CV → Bool) (tx : List UInt8 → Bool) (k m e : Int) (s : List UInt8) (b : Bool) (r h w f : Int) (a : Nat) (R L : List (List CV))
def outDt (ok : Bool) : LAns := .chk ok (.out (.exit 0) (sDtX m e s b r h w f a R L))
noncomputable def lvDt (ok : Bool) : FuncId → Lv := lvOf 71 (fun _ => some [2, 4, 5, 6, 30, 31, 32]) (oneL 8 (eAt 1 (sDt m e s b r h w f a R (List.replicate a zR0) 0) (outDt m e s b r h w f a R L ok)))
open Classical in
theorem tldt_a (ok : Bool) : Comes (tTl tx) (lvDt m e s b r h w f a R L ok) 71 [vL 5 m e s b r h w (.dsl 0 a) f, .func 74 [] []] [fR R]
  (.chk (decide (okRows a R)) (.br (!(rightA tx m e s b r h w f a R)) (errT 3 [fR R]) (.chk (mkB a) (.chk (eqSt (sDt m e s b r h w f a R (List.replicate a zR0) 0) (sDt m e s b r h w f a R (List.replicate a zR0) 0)) (.chk ok (.ret (vL 5 0 0 [] false 0 h w (.vec 1 a) 0) [fR R, vR34 L])))))) := by unfold Comes; kernel_rfl
noncomputable def tTpt : Tab := (74, eAsk q af) :: tTl tx
theorem tldt_p (hk : k = 0 ∨ k = 1 ∨ k = 2 ∨ k = 3) : Comes (tTpt af q tx) nolv 71 [vL k m e s b r h w .nilslice f, .func 74 [] []] []
  (.chk (decide (s.length ≤ 1000000)) (.br (!(rightF tx k m e s b r h w f)) (errT 3 []) (.chk (q (mkR k m e s b r h w f)) (rowA (af (mkR k m e s b r h w f)))))) := by rcases hk with rfl | rfl | rfl | rfl <;> (unfold Comes; kernel_rfl)
theorem tldt_4 : Comes (tTpt af q tx) nolv 71 [vL 4 m e s b r h w .nilslice f, .func 74 [] []] []
  (.chk (decide (s.length ≤ 1000000)) (.br (!(rightF tx 4 m e s b r h w f)) (errT 3 []) (errT r []))) := by unfold Comes; kernel_rfl
end
section
variable {af : List CV → List CV} {q : List CV → Bool} {m e : Int} {s : List UInt8} {b : Bool} {r h w f : Int} {a : Nat} {R : List (List CV)}
theorem loopDt (hq : EntOK Tryz.prog 74 (eAsk q af)) (hR : okD q a R) : Tri Tryz.prog (.loop loopTld) (sDt m e s b r h w f a R (List.replicate a zR0) 0).toA (.exit 0) (sDtX m e s b r h w f a R (tldL af a R a)).toA 1 := by
  obtain ⟨hl, hs, hp⟩ := hR
  have key := loop_rounds (ent_sound (T := tDt af q) (.cons hq .nil) host nolv_ok (NF := 64) (m := 1) 20) (NF := 64) (m := 1) (x := loopTld) (K := 1) loops_none (fun n => hasN [2, 4, 5, 6, 30, 31, 32] n) (fun n => hasN [2, 4, 6] n) (ι := { j : Nat // j ≤ a }) (fun j => sDt m e s b r h w f a R (tldL af a R j.1) (j.1 : Int)) (fun j => a - j.1) (fun j => (.exit 0, sDtX m e s b r h w f a R (tldL af a R a))) ?_ (fun j => by simp) ⟨0, Nat.zero_le _⟩
  · exact key
  rintro ⟨j, hj⟩
  simp only
  have rd := rDt af q m e s b r h w f a R (tldL af a R j) (j : Int)
  by_cases hlt : j < a
  · have i1 : ixN (j : Int) a = true := ixN_nat hlt
    have i2 : inS (j : Int) (tldL af a R j) = true := by unfold inS; rw [Int.toNat_natCast, tldL_len, decide_eq_true hlt]; rfl
    rw [bcT (decide_eq_true (by omega)), chks_true (all2 i1 (inR_nat (by omega))), chks_true (all2 i1 i2), chks_true (all2 i1 i2), up1_nat (by omega), Int.toNat_natCast] at rd
    refine .inl ⟨⟨j + 1, hlt⟩, by simp only; omega, trivial, ?_⟩
    rw [rd, tldL, oneF]
    cases h4 : rk (Sx.rowAt R j) == 4 with
    | true => rfl
    | false =>
      rcases hp j hlt with h | h
      · rw [h] at h4; cases h4
      · rw [chks_true (by simpa using h)]; rfl
  · obtain rfl : j = a := by omega
    rw [bcF (decide_eq_false (by omega))] at rd
    exact .inr rd
end

-- ToBool
section
variable (af : List CV → List CV) (q : List CV → Bool) (tx : List UInt8 → Bool) (k m e : Int) (s : List UInt8) (b : Bool) (r h w f : Int) (a : Nat) (R L : List (List CV))
def outDb (ok : Bool) : LAns := .chk ok (.out (.exit 0) (sDbX m e s b r h w f a R L))
noncomputable def lvDb (ok : Bool) : FuncId → Lv := lvOf 71 (fun _ => some [2, 4, 5, 6, 30, 31, 32]) (oneL 8 (eAt 1 (sDb m e s b r h w f a R (List.replicate a zR0) 0) (outDb m e s b r h w f a R L ok)))
open Classical in
theorem tldb_a (ok : Bool) : Comes (tTl tx) (lvDb m e s b r h w f a R L ok) 71 [vL 5 m e s b r h w (.dsl 0 a) f, .func 76 [] []] [fR R]
  (.chk (decide (okRows a R)) (.br (!(rightA tx m e s b r h w f a R)) (errT 3 [fR R]) (.chk (mkB a) (.chk (eqSt (sDb m e s b r h w f a R (List.replicate a zR0) 0) (sDb m e s b r h w f a R (List.replicate a zR0) 0)) (.chk ok (.ret (vL 5 0 0 [] false 0 h w (.vec 1 a) 0) [fR R, vR34 L])))))) := by unfold Comes; kernel_rfl
noncomputable def tTpb : Tab := (76, eAsk q af) :: tTl tx
theorem tldb_p (hk : k = 0 ∨ k = 1 ∨ k = 2 ∨ k = 3) : Comes (tTpb af q tx) nolv 71 [vL k m e s b r h w .nilslice f, .func 76 [] []] []
  (.chk (decide (s.length ≤ 1000000)) (.br (!(rightF tx k m e s b r h w f)) (errT 3 []) (.chk (q (mkR k m e s b r h w f)) (rowA (af (mkR k m e s b r h w f)))))) := by rcases hk with rfl | rfl | rfl | rfl <;> (unfold Comes; kernel_rfl)
theorem tldb_4 : Comes (tTpb af q tx) nolv 71 [vL 4 m e s b r h w .nilslice f, .func 76 [] []] []
  (.chk (decide (s.length ≤ 1000000)) (.br (!(rightF tx 4 m e s b r h w f)) (errT 3 []) (errT r []))) := by unfold Comes; kernel_rfl
end
section
variable {af : List CV → List CV} {q : List CV → Bool} {m e : Int} {s : List UInt8} {b : Bool} {r h w f : Int} {a : Nat} {R : List (List CV)}
theorem loopDb (hq : EntOK Tryz.prog 76 (eAsk q af)) (hR : okD q a R) : Tri Tryz.prog (.loop loopTld) (sDb m e s b r h w f a R (List.replicate a zR0) 0).toA (.exit 0) (sDbX m e s b r h w f a R (tldL af a R a)).toA 1 := by
  obtain ⟨hl, hs, hp⟩ := hR
  have key := loop_rounds (ent_sound (T := tDb af q) (.cons hq .nil) host nolv_ok (NF := 64) (m := 1) 20) (NF := 64) (m := 1) (x := loopTld) (K := 1) loops_none (fun n => hasN [2, 4, 5, 6, 30, 31, 32] n) (fun n => hasN [2, 4, 6] n) (ι := { j : Nat // j ≤ a }) (fun j => sDb m e s b r h w f a R (tldL af a R j.1) (j.1 : Int)) (fun j => a - j.1) (fun j => (.exit 0, sDbX m e s b r h w f a R (tldL af a R a))) ?_ (fun j => by simp) ⟨0, Nat.zero_le _⟩
  · exact key
  rintro ⟨j, hj⟩
  simp only
  have rd := rDb af q m e s b r h w f a R (tldL af a R j) (j : Int)
  by_cases hlt : j < a
  · have i1 : ixN (j : Int) a = true := ixN_nat hlt
    have i2 : inS (j : Int) (tldL af a R j) = true := by unfold inS; rw [Int.toNat_natCast, tldL_len, decide_eq_true hlt]; rfl
    rw [bcT (decide_eq_true (by omega)), chks_true (all2 i1 (inR_nat (by omega))), chks_true (all2 i1 i2), chks_true (all2 i1 i2), up1_nat (by omega), Int.toNat_natCast] at rd
    refine .inl ⟨⟨j + 1, hlt⟩, by simp only; omega, trivial, ?_⟩
    rw [rd, tldL, oneF]
    cases h4 : rk (Sx.rowAt R j) == 4 with
    | true => rfl
    | false =>
      rcases hp j hlt with h | h
      · rw [h] at h4; cases h4
      · rw [chks_true (by simpa using h)]; rfl
  · obtain rfl : j = a := by omega
    rw [bcF (decide_eq_false (by omega))] at rd
    exact .inr rd
end
end Go.Proofs.YtdomenmfkbfakaaGreatDoor

/- Layer 3: what is told of a value: entries. -/
set_option linter.unusedVariables false
set_option linter.unusedSimpArgs false
set_option linter.unusedSectionVars false
namespace Go.Proofs.YtdomenmfkbfakaaGreatDoor
open Go Sx
theorem mkB_ok {a : Nat} (h : a < 1000000000) : mkB a = true := by unfold mkB; rw [decide_eq_true ⟨by omega, rfl, by omega, by omega⟩]; rfl
/-- What is told of a plain value. -/
def tellP (tx : List UInt8 → Bool) (af : List CV → List CV) (k m e : Int) (s : List UInt8) (b : Bool) (r h w f : Int) : List CV := bcond (rightF tx k m e s b r h w f) (bcond (k == 4) (errR r) (af (mkR k m e s b r h w f))) (errR 3)
open Classical in
noncomputable def eTo (tx : List UInt8 → Bool) (af : List CV → List CV) (q : List CV → Bool) : Ent := fun args pre => match args, pre with
  | [.agg [.int .i64 k, .int .i64 m, .int .i64 e, .str s, .bool b, .int .i64 r, .int .i64 h, .int .i64 w, l, .int .i64 f, .nilslice, .nilslice]], [o] =>
    match rowsIn 0 l o with
    | some (a, R) => .chk (k == 5) (.chk (decide (okRows a R)) (.br (rightA tx m e s b r h w f a R) (.chk (decide (okD q a R)) (.ret (vL 5 0 0 [] false 0 h w (.vec 1 a) 0) [o, vR34 (tldL af a R a)])) (.ret (vR (errR 3)) [o])))
    | none => .fail
  | [.agg [.int .i64 k, .int .i64 m, .int .i64 e, .str s, .bool b, .int .i64 r, .int .i64 h, .int .i64 w, .nilslice, .int .i64 f, .nilslice, .nilslice]], [] =>
    .chk (decide (0 ≤ k ∧ k ≤ 4)) (.chk (decide (s.length ≤ 1000000)) (.chk (k == 4 || q (mkR k m e s b r h w f)) (.ret (vR (tellP tx af k m e s b r h w f)) [])))
  | _, _ => .fail

-- ToNum
open Classical in
noncomputable def eTln (tx : List UInt8 → Bool) (af : List CV → List CV) (q : List CV → Bool) : Ent := fun args pre => match args with
  | [v, .func g [] []] => .chk (Nat.beq g 72) (eTo tx af q [v] pre)
  | _ => .fail
section
variable {tx : List UInt8 → Bool} {af : List CV → List CV} {q : List CV → Bool} (ht : EntOK Tryz.prog 51 (eIsT tx)) (hq : EntOK Tryz.prog 72 (eAsk q af))
include ht hq
open Classical in
theorem tln_meets {m e : Int} {s : List UInt8} {b : Bool} {r h w f : Int} {a : Nat} {R : List (List CV)} (hR : okRows a R) : (rightA tx m e s b r h w f a R = true → okD q a R → Meets Tryz.prog 71 [vL 5 m e s b r h w (.dsl 0 a) f, .func 72 [] []] [.flatR false shV R] (vL 5 0 0 [] false 0 h w (.vec 1 a) 0) [.flatR false shV R, (vR34 (tldL af a R a)).toA]) ∧
    (rightA tx m e s b r h w f a R = false → Meets Tryz.prog 71 [vL 5 m e s b r h w (.dsl 0 a) f, .func 72 [] []] [.flatR false shV R] (vR (errR 3)) [.flatR false shV R]) := by
  have T : TabOK Tryz.prog (tTl tx) := .cons (eRig_ok ht) .nil
  have hL : okD q a R → LvOK Tryz.prog (lvDn m e s b r h w f a R (tldL af a R a) true) := fun hD => lvOne_ok (x := loopTld) Tryz.func71 (by kernel_rfl) fun K t => eAt_ok (a := outDn m e s b r h w f a R (tldL af a R a) true) ⟨fun _ => loopDn hq hD, fun _ => trivial⟩ K t
  have hL0 : LvOK Tryz.prog (lvDn m e s b r h w f a R [] false) := lvOne_ok (x := loopTld) Tryz.func71 (by kernel_rfl) fun K t => eAt_ok (a := outDn m e s b r h w f a R [] false) ⟨fun c => (by cases c), fun _ => trivial⟩ K t
  refine ⟨fun g hD => meets_ent (pre := [fR R]) (post := [fR R, vR34 (tldL af a R a)]) T host ((tldn_a tx m e s b r h w f a R (tldL af a R a) true).trans ?_) (hL hD), fun g => meets_ent (pre := [fR R]) (post := [fR R]) T host ((tldn_a tx m e s b r h w f a R [] false).trans ?_) hL0⟩
  · rw [chkT (decide_eq_true hR), g, Bool.not_true, brF rfl, chkT (mkB_ok hD.2.1), chkT (eqSt_refl _), chkT rfl]; rfl
  · rw [chkT (decide_eq_true hR), g, Bool.not_false, brT rfl]; rfl
theorem tln_plain {k m e : Int} {s : List UInt8} {b : Bool} {r h w f : Int} (hk : 0 ≤ k ∧ k ≤ 4) (hs : s.length ≤ 1000000) (hb : (k == 4 || q (mkR k m e s b r h w f)) = true) : Meets Tryz.prog 71 [vL k m e s b r h w .nilslice f, .func 72 [] []] [] (vR (tellP tx af k m e s b r h w f)) [] := by
  have T : TabOK Tryz.prog (tTpn af q tx) := .cons hq (.cons (eRig_ok ht) .nil)
  by_cases h4 : k = 4
  · subst h4
    refine meets_ent (pre := []) (post := []) T host ((tldn_4 af q tx m e s b r h w f).trans ?_) nolv_ok
    rw [chkT (decide_eq_true hs)]; unfold tellP
    cases rightF tx 4 m e s b r h w f <;> rfl
  · have hb : q (mkR k m e s b r h w f) = true := by rwa [beq_eq_false_iff_ne.2 h4, Bool.false_or] at hb
    refine meets_ent (pre := []) (post := []) T host ((tldn_p af q tx k m e s b r h w f (by omega)).trans ?_) nolv_ok
    rw [chkT (decide_eq_true hs)]; unfold tellP
    rw [beq_eq_false_iff_ne.2 h4]
    cases rightF tx k m e s b r h w f with
    | false => rfl
    | true => rw [Bool.not_true, brF rfl, chkT hb]; rfl
end

-- ToText
open Classical in
noncomputable def eTlt (tx : List UInt8 → Bool) (af : List CV → List CV) (q : List CV → Bool) : Ent := fun args pre => match args with
  | [v, .func g [] []] => .chk (Nat.beq g 74) (eTo tx af q [v] pre)
  | _ => .fail
section
variable {tx : List UInt8 → Bool} {af : List CV → List CV} {q : List CV → Bool} (ht : EntOK Tryz.prog 51 (eIsT tx)) (hq : EntOK Tryz.prog 74 (eAsk q af))
include ht hq
open Classical in
theorem tlt_meets {m e : Int} {s : List UInt8} {b : Bool} {r h w f : Int} {a : Nat} {R : List (List CV)} (hR : okRows a R) : (rightA tx m e s b r h w f a R = true → okD q a R → Meets Tryz.prog 71 [vL 5 m e s b r h w (.dsl 0 a) f, .func 74 [] []] [.flatR false shV R] (vL 5 0 0 [] false 0 h w (.vec 1 a) 0) [.flatR false shV R, (vR34 (tldL af a R a)).toA]) ∧
    (rightA tx m e s b r h w f a R = false → Meets Tryz.prog 71 [vL 5 m e s b r h w (.dsl 0 a) f, .func 74 [] []] [.flatR false shV R] (vR (errR 3)) [.flatR false shV R]) := by
  have T : TabOK Tryz.prog (tTl tx) := .cons (eRig_ok ht) .nil
  have hL : okD q a R → LvOK Tryz.prog (lvDt m e s b r h w f a R (tldL af a R a) true) := fun hD => lvOne_ok (x := loopTld) Tryz.func71 (by kernel_rfl) fun K t => eAt_ok (a := outDt m e s b r h w f a R (tldL af a R a) true) ⟨fun _ => loopDt hq hD, fun _ => trivial⟩ K t
  have hL0 : LvOK Tryz.prog (lvDt m e s b r h w f a R [] false) := lvOne_ok (x := loopTld) Tryz.func71 (by kernel_rfl) fun K t => eAt_ok (a := outDt m e s b r h w f a R [] false) ⟨fun c => (by cases c), fun _ => trivial⟩ K t
  refine ⟨fun g hD => meets_ent (pre := [fR R]) (post := [fR R, vR34 (tldL af a R a)]) T host ((tldt_a tx m e s b r h w f a R (tldL af a R a) true).trans ?_) (hL hD), fun g => meets_ent (pre := [fR R]) (post := [fR R]) T host ((tldt_a tx m e s b r h w f a R [] false).trans ?_) hL0⟩
  · rw [chkT (decide_eq_true hR), g, Bool.not_true, brF rfl, chkT (mkB_ok hD.2.1), chkT (eqSt_refl _), chkT rfl]; rfl
  · rw [chkT (decide_eq_true hR), g, Bool.not_false, brT rfl]; rfl
theorem tlt_plain {k m e : Int} {s : List UInt8} {b : Bool} {r h w f : Int} (hk : 0 ≤ k ∧ k ≤ 4) (hs : s.length ≤ 1000000) (hb : (k == 4 || q (mkR k m e s b r h w f)) = true) : Meets Tryz.prog 71 [vL k m e s b r h w .nilslice f, .func 74 [] []] [] (vR (tellP tx af k m e s b r h w f)) [] := by
  have T : TabOK Tryz.prog (tTpt af q tx) := .cons hq (.cons (eRig_ok ht) .nil)
  by_cases h4 : k = 4
  · subst h4
    refine meets_ent (pre := []) (post := []) T host ((tldt_4 af q tx m e s b r h w f).trans ?_) nolv_ok
    rw [chkT (decide_eq_true hs)]; unfold tellP
    cases rightF tx 4 m e s b r h w f <;> rfl
  · have hb : q (mkR k m e s b r h w f) = true := by rwa [beq_eq_false_iff_ne.2 h4, Bool.false_or] at hb
    refine meets_ent (pre := []) (post := []) T host ((tldt_p af q tx k m e s b r h w f (by omega)).trans ?_) nolv_ok
    rw [chkT (decide_eq_true hs)]; unfold tellP
    rw [beq_eq_false_iff_ne.2 h4]
    cases rightF tx k m e s b r h w f with
    | false => rfl
    | true => rw [Bool.not_true, brF rfl, chkT hb]; rfl
end

-- ToBool
open Classical in
noncomputable def eTlb (tx : List UInt8 → Bool) (af : List CV → List CV) (q : List CV → Bool) : Ent := fun args pre => match args with
  | [v, .func g [] []] => .chk (Nat.beq g 76) (eTo tx af q [v] pre)
  | _ => .fail
section
variable {tx : List UInt8 → Bool} {af : List CV → List CV} {q : List CV → Bool} (ht : EntOK Tryz.prog 51 (eIsT tx)) (hq : EntOK Tryz.prog 76 (eAsk q af))
include ht hq
open Classical in
theorem tlb_meets {m e : Int} {s : List UInt8} {b : Bool} {r h w f : Int} {a : Nat} {R : List (List CV)} (hR : okRows a R) : (rightA tx m e s b r h w f a R = true → okD q a R → Meets Tryz.prog 71 [vL 5 m e s b r h w (.dsl 0 a) f, .func 76 [] []] [.flatR false shV R] (vL 5 0 0 [] false 0 h w (.vec 1 a) 0) [.flatR false shV R, (vR34 (tldL af a R a)).toA]) ∧
    (rightA tx m e s b r h w f a R = false → Meets Tryz.prog 71 [vL 5 m e s b r h w (.dsl 0 a) f, .func 76 [] []] [.flatR false shV R] (vR (errR 3)) [.flatR false shV R]) := by
  have T : TabOK Tryz.prog (tTl tx) := .cons (eRig_ok ht) .nil
  have hL : okD q a R → LvOK Tryz.prog (lvDb m e s b r h w f a R (tldL af a R a) true) := fun hD => lvOne_ok (x := loopTld) Tryz.func71 (by kernel_rfl) fun K t => eAt_ok (a := outDb m e s b r h w f a R (tldL af a R a) true) ⟨fun _ => loopDb hq hD, fun _ => trivial⟩ K t
  have hL0 : LvOK Tryz.prog (lvDb m e s b r h w f a R [] false) := lvOne_ok (x := loopTld) Tryz.func71 (by kernel_rfl) fun K t => eAt_ok (a := outDb m e s b r h w f a R [] false) ⟨fun c => (by cases c), fun _ => trivial⟩ K t
  refine ⟨fun g hD => meets_ent (pre := [fR R]) (post := [fR R, vR34 (tldL af a R a)]) T host ((tldb_a tx m e s b r h w f a R (tldL af a R a) true).trans ?_) (hL hD), fun g => meets_ent (pre := [fR R]) (post := [fR R]) T host ((tldb_a tx m e s b r h w f a R [] false).trans ?_) hL0⟩
  · rw [chkT (decide_eq_true hR), g, Bool.not_true, brF rfl, chkT (mkB_ok hD.2.1), chkT (eqSt_refl _), chkT rfl]; rfl
  · rw [chkT (decide_eq_true hR), g, Bool.not_false, brT rfl]; rfl
theorem tlb_plain {k m e : Int} {s : List UInt8} {b : Bool} {r h w f : Int} (hk : 0 ≤ k ∧ k ≤ 4) (hs : s.length ≤ 1000000) (hb : (k == 4 || q (mkR k m e s b r h w f)) = true) : Meets Tryz.prog 71 [vL k m e s b r h w .nilslice f, .func 76 [] []] [] (vR (tellP tx af k m e s b r h w f)) [] := by
  have T : TabOK Tryz.prog (tTpb af q tx) := .cons hq (.cons (eRig_ok ht) .nil)
  by_cases h4 : k = 4
  · subst h4
    refine meets_ent (pre := []) (post := []) T host ((tldb_4 af q tx m e s b r h w f).trans ?_) nolv_ok
    rw [chkT (decide_eq_true hs)]; unfold tellP
    cases rightF tx 4 m e s b r h w f <;> rfl
  · have hb : q (mkR k m e s b r h w f) = true := by rwa [beq_eq_false_iff_ne.2 h4, Bool.false_or] at hb
    refine meets_ent (pre := []) (post := []) T host ((tldb_p af q tx k m e s b r h w f (by omega)).trans ?_) nolv_ok
    rw [chkT (decide_eq_true hs)]; unfold tellP
    rw [beq_eq_false_iff_ne.2 h4]
    cases rightF tx k m e s b r h w f with
    | false => rfl
    | true => rw [Bool.not_true, brF rfl, chkT hb]; rfl
end
end Go.Proofs.YtdomenmfkbfakaaGreatDoor

/- Layer 3: ToNum, ToText, ToBool. -/
set_option linter.unusedVariables false
set_option linter.unusedSimpArgs false
set_option linter.unusedSectionVars false
namespace Go.Proofs.YtdomenmfkbfakaaGreatDoor
open Go Sx

-- ToNum
noncomputable def tTon (tx : List UInt8 → Bool) (af : List CV → List CV) (q : List CV → Bool) : Tab := [(71, eTln tx af q)]
section
variable {tx : List UInt8 → Bool} {af : List CV → List CV} {q : List CV → Bool} (ht : EntOK Tryz.prog 51 (eIsT tx)) (hq : EntOK Tryz.prog 72 (eAsk q af))
include ht hq
open Classical in
theorem eTln_ok : EntOK Tryz.prog 71 (eTln tx af q) := fun args pre => by
  unfold eTln
  split
  · rename_i v g
    refine ⟨fun g0 => ?_, fun _ => trivial⟩
    obtain rfl := Nat.eq_of_beq_eq_true g0
    unfold eTo
    split
    · rename_i hv
      obtain rfl := List.head_eq_of_cons_eq hv
      split
      · rename_i k m e s b r h w l f o _ a R hs
        refine ⟨fun g1 => ⟨fun g2 => ⟨fun g3 => ⟨fun g4 => ?_, fun _ => trivial⟩, fun g3 => ?_⟩, fun _ => trivial⟩, fun _ => trivial⟩
        · obtain rfl := beq_iff_eq.1 g1
          exact meets_rows (j := 0) hs ((tln_meets ht hq (of_decide_eq_true g2)).1 g3 (of_decide_eq_true g4)) rfl fun E xs hx => denL_L1 (fun y hy => rowsIn_den hs hy) _ xs hx
        · obtain rfl := beq_iff_eq.1 g1
          exact meets_rows (j := 0) hs ((tln_meets ht hq (of_decide_eq_true g2)).2 g3) rfl fun E xs hx => denL_L1 (fun y hy => rowsIn_den hs hy) _ xs hx
      · trivial
    · rename_i hv
      obtain rfl := List.head_eq_of_cons_eq hv
      exact ⟨fun g1 => ⟨fun g2 => ⟨fun g3 => tln_plain ht hq (of_decide_eq_true g1) (of_decide_eq_true g2) g3, fun _ => trivial⟩, fun _ => trivial⟩, fun _ => trivial⟩
    · trivial
  · trivial
end
open Classical in
theorem ton_a (tx : List UInt8 → Bool) (af : List CV → List CV) (q : List CV → Bool) (m e : Int) (s : List UInt8) (b : Bool) (r h w f : Int) (a : Nat) (R : List (List CV)) : Comes (tTon tx af q) nolv 29 [vL 5 m e s b r h w (.dsl 0 a) f] [fR R]
  (.chk (decide (okRows a R)) (.br (rightA tx m e s b r h w f a R) (.chk (decide (okD q a R)) (.ret (vL 5 0 0 [] false 0 h w (.vec 1 a) 0) [fR R, vR34 (tldL af a R a)])) (errT 3 [fR R]))) := by unfold Comes; kernel_rfl
theorem ton_p (tx : List UInt8 → Bool) (af : List CV → List CV) (q : List CV → Bool) (k m e : Int) (s : List UInt8) (b : Bool) (r h w f : Int) : Comes (tTon tx af q) nolv 29 [vL k m e s b r h w .nilslice f] []
  (.chk (decide (0 ≤ k ∧ k ≤ 4)) (.chk (decide (s.length ≤ 1000000)) (.chk (k == 4 || q (mkR k m e s b r h w f)) (rowA (tellP tx af k m e s b r h w f))))) := by unfold Comes; kernel_rfl
section
variable {tx : List UInt8 → Bool} {af : List CV → List CV} {q : List CV → Bool} (ht : EntOK Tryz.prog 51 (eIsT tx)) (hq : EntOK Tryz.prog 72 (eAsk q af))
include ht hq
open Classical in
theorem eTon_ok : EntOK Tryz.prog 29 (eTo tx af q) := fun args pre => by
  have T : TabOK Tryz.prog (tTon tx af q) := .cons (eTln_ok ht hq) .nil
  unfold eTo
  split
  · split
    · rename_i k m e s b r h w l f o _ a R hs
      refine ⟨fun g1 => ⟨fun g2 => ⟨fun g3 => ⟨fun g4 => ?_, fun _ => trivial⟩, fun g3 => ?_⟩, fun _ => trivial⟩, fun _ => trivial⟩
      · obtain rfl := beq_iff_eq.1 g1
        exact meets_rows (j := 0) hs (pre := [.flatR false shV R]) (post := [.flatR false shV R, (vR34 (tldL af a R a)).toA]) (meets_ent (pre := [fR R]) (post := [fR R, vR34 (tldL af a R a)]) T host ((ton_a tx af q m e s b r h w f a R).trans (by rw [chkT g2, brT g3, chkT g4]; rfl)) nolv_ok) rfl fun E xs hx => denL_L1 (fun y hy => rowsIn_den hs hy) _ xs hx
      · obtain rfl := beq_iff_eq.1 g1
        exact meets_rows (j := 0) hs (pre := [.flatR false shV R]) (post := [.flatR false shV R]) (meets_ent (pre := [fR R]) (post := [fR R]) T host ((ton_a tx af q m e s b r h w f a R).trans (by rw [chkT g2, brF g3]; rfl)) nolv_ok) rfl fun E xs hx => denL_L1 (fun y hy => rowsIn_den hs hy) _ xs hx
    · trivial
  · refine ⟨fun g1 => ⟨fun g2 => ⟨fun g3 => ?_, fun _ => trivial⟩, fun _ => trivial⟩, fun _ => trivial⟩
    exact meets_ent (pre := []) (post := []) T host ((ton_p tx af q ..).trans (by rw [chkT g1, chkT g2, chkT g3]; rfl)) nolv_ok
  · trivial
end

-- ToText
noncomputable def tTot (tx : List UInt8 → Bool) (af : List CV → List CV) (q : List CV → Bool) : Tab := [(71, eTlt tx af q)]
section
variable {tx : List UInt8 → Bool} {af : List CV → List CV} {q : List CV → Bool} (ht : EntOK Tryz.prog 51 (eIsT tx)) (hq : EntOK Tryz.prog 74 (eAsk q af))
include ht hq
open Classical in
theorem eTlt_ok : EntOK Tryz.prog 71 (eTlt tx af q) := fun args pre => by
  unfold eTlt
  split
  · rename_i v g
    refine ⟨fun g0 => ?_, fun _ => trivial⟩
    obtain rfl := Nat.eq_of_beq_eq_true g0
    unfold eTo
    split
    · rename_i hv
      obtain rfl := List.head_eq_of_cons_eq hv
      split
      · rename_i k m e s b r h w l f o _ a R hs
        refine ⟨fun g1 => ⟨fun g2 => ⟨fun g3 => ⟨fun g4 => ?_, fun _ => trivial⟩, fun g3 => ?_⟩, fun _ => trivial⟩, fun _ => trivial⟩
        · obtain rfl := beq_iff_eq.1 g1
          exact meets_rows (j := 0) hs ((tlt_meets ht hq (of_decide_eq_true g2)).1 g3 (of_decide_eq_true g4)) rfl fun E xs hx => denL_L1 (fun y hy => rowsIn_den hs hy) _ xs hx
        · obtain rfl := beq_iff_eq.1 g1
          exact meets_rows (j := 0) hs ((tlt_meets ht hq (of_decide_eq_true g2)).2 g3) rfl fun E xs hx => denL_L1 (fun y hy => rowsIn_den hs hy) _ xs hx
      · trivial
    · rename_i hv
      obtain rfl := List.head_eq_of_cons_eq hv
      exact ⟨fun g1 => ⟨fun g2 => ⟨fun g3 => tlt_plain ht hq (of_decide_eq_true g1) (of_decide_eq_true g2) g3, fun _ => trivial⟩, fun _ => trivial⟩, fun _ => trivial⟩
    · trivial
  · trivial
end
open Classical in
theorem tot_a (tx : List UInt8 → Bool) (af : List CV → List CV) (q : List CV → Bool) (m e : Int) (s : List UInt8) (b : Bool) (r h w f : Int) (a : Nat) (R : List (List CV)) : Comes (tTot tx af q) nolv 30 [vL 5 m e s b r h w (.dsl 0 a) f] [fR R]
  (.chk (decide (okRows a R)) (.br (rightA tx m e s b r h w f a R) (.chk (decide (okD q a R)) (.ret (vL 5 0 0 [] false 0 h w (.vec 1 a) 0) [fR R, vR34 (tldL af a R a)])) (errT 3 [fR R]))) := by unfold Comes; kernel_rfl
theorem tot_p (tx : List UInt8 → Bool) (af : List CV → List CV) (q : List CV → Bool) (k m e : Int) (s : List UInt8) (b : Bool) (r h w f : Int) : Comes (tTot tx af q) nolv 30 [vL k m e s b r h w .nilslice f] []
  (.chk (decide (0 ≤ k ∧ k ≤ 4)) (.chk (decide (s.length ≤ 1000000)) (.chk (k == 4 || q (mkR k m e s b r h w f)) (rowA (tellP tx af k m e s b r h w f))))) := by unfold Comes; kernel_rfl
section
variable {tx : List UInt8 → Bool} {af : List CV → List CV} {q : List CV → Bool} (ht : EntOK Tryz.prog 51 (eIsT tx)) (hq : EntOK Tryz.prog 74 (eAsk q af))
include ht hq
open Classical in
theorem eTot_ok : EntOK Tryz.prog 30 (eTo tx af q) := fun args pre => by
  have T : TabOK Tryz.prog (tTot tx af q) := .cons (eTlt_ok ht hq) .nil
  unfold eTo
  split
  · split
    · rename_i k m e s b r h w l f o _ a R hs
      refine ⟨fun g1 => ⟨fun g2 => ⟨fun g3 => ⟨fun g4 => ?_, fun _ => trivial⟩, fun g3 => ?_⟩, fun _ => trivial⟩, fun _ => trivial⟩
      · obtain rfl := beq_iff_eq.1 g1
        exact meets_rows (j := 0) hs (pre := [.flatR false shV R]) (post := [.flatR false shV R, (vR34 (tldL af a R a)).toA]) (meets_ent (pre := [fR R]) (post := [fR R, vR34 (tldL af a R a)]) T host ((tot_a tx af q m e s b r h w f a R).trans (by rw [chkT g2, brT g3, chkT g4]; rfl)) nolv_ok) rfl fun E xs hx => denL_L1 (fun y hy => rowsIn_den hs hy) _ xs hx
      · obtain rfl := beq_iff_eq.1 g1
        exact meets_rows (j := 0) hs (pre := [.flatR false shV R]) (post := [.flatR false shV R]) (meets_ent (pre := [fR R]) (post := [fR R]) T host ((tot_a tx af q m e s b r h w f a R).trans (by rw [chkT g2, brF g3]; rfl)) nolv_ok) rfl fun E xs hx => denL_L1 (fun y hy => rowsIn_den hs hy) _ xs hx
    · trivial
  · refine ⟨fun g1 => ⟨fun g2 => ⟨fun g3 => ?_, fun _ => trivial⟩, fun _ => trivial⟩, fun _ => trivial⟩
    exact meets_ent (pre := []) (post := []) T host ((tot_p tx af q ..).trans (by rw [chkT g1, chkT g2, chkT g3]; rfl)) nolv_ok
  · trivial
end

-- ToBool
noncomputable def tTob (tx : List UInt8 → Bool) (af : List CV → List CV) (q : List CV → Bool) : Tab := [(71, eTlb tx af q)]
section
variable {tx : List UInt8 → Bool} {af : List CV → List CV} {q : List CV → Bool} (ht : EntOK Tryz.prog 51 (eIsT tx)) (hq : EntOK Tryz.prog 76 (eAsk q af))
include ht hq
open Classical in
theorem eTlb_ok : EntOK Tryz.prog 71 (eTlb tx af q) := fun args pre => by
  unfold eTlb
  split
  · rename_i v g
    refine ⟨fun g0 => ?_, fun _ => trivial⟩
    obtain rfl := Nat.eq_of_beq_eq_true g0
    unfold eTo
    split
    · rename_i hv
      obtain rfl := List.head_eq_of_cons_eq hv
      split
      · rename_i k m e s b r h w l f o _ a R hs
        refine ⟨fun g1 => ⟨fun g2 => ⟨fun g3 => ⟨fun g4 => ?_, fun _ => trivial⟩, fun g3 => ?_⟩, fun _ => trivial⟩, fun _ => trivial⟩
        · obtain rfl := beq_iff_eq.1 g1
          exact meets_rows (j := 0) hs ((tlb_meets ht hq (of_decide_eq_true g2)).1 g3 (of_decide_eq_true g4)) rfl fun E xs hx => denL_L1 (fun y hy => rowsIn_den hs hy) _ xs hx
        · obtain rfl := beq_iff_eq.1 g1
          exact meets_rows (j := 0) hs ((tlb_meets ht hq (of_decide_eq_true g2)).2 g3) rfl fun E xs hx => denL_L1 (fun y hy => rowsIn_den hs hy) _ xs hx
      · trivial
    · rename_i hv
      obtain rfl := List.head_eq_of_cons_eq hv
      exact ⟨fun g1 => ⟨fun g2 => ⟨fun g3 => tlb_plain ht hq (of_decide_eq_true g1) (of_decide_eq_true g2) g3, fun _ => trivial⟩, fun _ => trivial⟩, fun _ => trivial⟩
    · trivial
  · trivial
end
open Classical in
theorem tob_a (tx : List UInt8 → Bool) (af : List CV → List CV) (q : List CV → Bool) (m e : Int) (s : List UInt8) (b : Bool) (r h w f : Int) (a : Nat) (R : List (List CV)) : Comes (tTob tx af q) nolv 31 [vL 5 m e s b r h w (.dsl 0 a) f] [fR R]
  (.chk (decide (okRows a R)) (.br (rightA tx m e s b r h w f a R) (.chk (decide (okD q a R)) (.ret (vL 5 0 0 [] false 0 h w (.vec 1 a) 0) [fR R, vR34 (tldL af a R a)])) (errT 3 [fR R]))) := by unfold Comes; kernel_rfl
theorem tob_p (tx : List UInt8 → Bool) (af : List CV → List CV) (q : List CV → Bool) (k m e : Int) (s : List UInt8) (b : Bool) (r h w f : Int) : Comes (tTob tx af q) nolv 31 [vL k m e s b r h w .nilslice f] []
  (.chk (decide (0 ≤ k ∧ k ≤ 4)) (.chk (decide (s.length ≤ 1000000)) (.chk (k == 4 || q (mkR k m e s b r h w f)) (rowA (tellP tx af k m e s b r h w f))))) := by unfold Comes; kernel_rfl
section
variable {tx : List UInt8 → Bool} {af : List CV → List CV} {q : List CV → Bool} (ht : EntOK Tryz.prog 51 (eIsT tx)) (hq : EntOK Tryz.prog 76 (eAsk q af))
include ht hq
open Classical in
theorem eTob_ok : EntOK Tryz.prog 31 (eTo tx af q) := fun args pre => by
  have T : TabOK Tryz.prog (tTob tx af q) := .cons (eTlb_ok ht hq) .nil
  unfold eTo
  split
  · split
    · rename_i k m e s b r h w l f o _ a R hs
      refine ⟨fun g1 => ⟨fun g2 => ⟨fun g3 => ⟨fun g4 => ?_, fun _ => trivial⟩, fun g3 => ?_⟩, fun _ => trivial⟩, fun _ => trivial⟩
      · obtain rfl := beq_iff_eq.1 g1
        exact meets_rows (j := 0) hs (pre := [.flatR false shV R]) (post := [.flatR false shV R, (vR34 (tldL af a R a)).toA]) (meets_ent (pre := [fR R]) (post := [fR R, vR34 (tldL af a R a)]) T host ((tob_a tx af q m e s b r h w f a R).trans (by rw [chkT g2, brT g3, chkT g4]; rfl)) nolv_ok) rfl fun E xs hx => denL_L1 (fun y hy => rowsIn_den hs hy) _ xs hx
      · obtain rfl := beq_iff_eq.1 g1
        exact meets_rows (j := 0) hs (pre := [.flatR false shV R]) (post := [.flatR false shV R]) (meets_ent (pre := [fR R]) (post := [fR R]) T host ((tob_a tx af q m e s b r h w f a R).trans (by rw [chkT g2, brF g3]; rfl)) nolv_ok) rfl fun E xs hx => denL_L1 (fun y hy => rowsIn_den hs hy) _ xs hx
    · trivial
  · refine ⟨fun g1 => ⟨fun g2 => ⟨fun g3 => ?_, fun _ => trivial⟩, fun _ => trivial⟩, fun _ => trivial⟩
    exact meets_ent (pre := []) (post := []) T host ((tob_p tx af q ..).trans (by rw [chkT g1, chkT g2, chkT g3]; rfl)) nolv_ok
  · trivial
end
end Go.Proofs.YtdomenmfkbfakaaGreatDoor

/- Layer 3: what is told of a plain value as a number, a truth, a text: over dec.Read, letters.Small, dec.Text, not looked into. -/
set_option linter.unusedVariables false
set_option linter.unusedSimpArgs false
namespace Go.Proofs.YtdomenmfkbfakaaGreatDoor
open Go Sx
def eRdF (rd : List UInt8 → Int × Int × Int) : Ent := fun args pre => match args, pre with
  | [.str s], [] => .chk (decide (s.length < 1000000)) (.ret (R3 (rd s)) [])
  | _, _ => .fail
def eSmF (sm : List UInt8 → List UInt8) : Ent := fun args pre => match args, pre with
  | [.str s], [] => .chk (decide (s.length < 1000000)) (.ret (.str (sm s)) [])
  | _, _ => .fail
def eDtF (dt : Int → Int → List UInt8) : Ent := fun args pre => match args, pre with
  | [.agg [.int .i64 m, .int .i64 e]], [] => .chk (Dq.rightB m e) (.ret (.tuple [.str (dt m e), .int .i64 0]) [])
  | _, _ => .fail
def nmR (m e : Int) : List CV := mkR 1 m e [] false 0 0 0 0
def txR (s : List UInt8) : List CV := mkR 2 0 0 s false 0 0 0 0
def trR (b : Bool) : List CV := mkR 3 0 0 [] b 0 0 0 0
def sTrue : List UInt8 := [116, 114, 117, 101]
def sFalse : List UInt8 := [102, 97, 108, 115, 101]
section
variable (rd : List UInt8 → Int × Int × Int) (sm : List UInt8 → List UInt8) (dt : Int → Int → List UInt8) (k m e : Int) (s : List UInt8) (b : Bool) (r h w f : Int)
def numT (r3 : Int × Int × Int) : Ans := .br (k == 1) (rowA (nmR m e)) (.br (k == 3) (.br b (rowA (nmR 1 0)) (rowA (nmR 0 0))) (.br (k == 2) (.chk (decide (s.length < 1000000)) (.br (r3.2.2 != 0) (errT 3 []) (rowA (nmR r3.1 r3.2.1)))) (rowA (nmR 0 0))))
theorem askN_comes : Comes [(44, eRdF rd)] nolv 72 [vL k m e s b r h w .nilslice f] [] (numT k m e s b (rd s)) := by unfold Comes; kernel_rfl
def truT (t : List UInt8) : Ans := .br (k == 1) (rowA (trR (m != 0))) (.br (k == 3) (rowA (trR b)) (.br (k == 2) (.chk (decide (s.length < 1000000)) (.br (t == sTrue) (rowA (trR (t == sTrue))) (.br (!(t == sFalse)) (errT 3 []) (rowA (trR (t == sTrue)))))) (rowA (trR false))))
theorem askB_comes : Comes [(46, eSmF sm)] nolv 76 [vL k m e s b r h w .nilslice f] [] (truT k m s b (sm s)) := by unfold Comes; kernel_rfl
end
/-- A value as a number, as a truth, as a text. -/
def afN (rd : List UInt8 → Int × Int × Int) (x : List CV) : List CV := bcond (rk x == 1) (nmR (rm x) (re x)) (bcond (rk x == 3) (nmR (bcond (rb x) 1 0) 0) (bcond (rk x == 2) (bcond ((rd (rs x)).2.2 != 0) (errR 3) (nmR (rd (rs x)).1 (rd (rs x)).2.1)) (nmR 0 0)))
def afB (sm : List UInt8 → List UInt8) (x : List CV) : List CV := bcond (rk x == 1) (trR (rm x != 0)) (bcond (rk x == 3) (trR (rb x)) (bcond (rk x == 2) (bcond (sm (rs x) == sTrue) (trR true) (bcond (sm (rs x) == sFalse) (trR false) (errR 3))) (trR false)))
def qLn (x : List CV) : Bool := decide ((rs x).length < 1000000)
theorem askN_ok {rd : List UInt8 → Int × Int × Int} (hr : EntOK Tryz.prog 44 (eRdF rd)) : EntOK Tryz.prog 72 (eAsk qLn (afN rd)) := fun args pre => by
  unfold eAsk
  split
  · rename_i k m e s b r h w f
    refine ⟨fun g => ?_, fun _ => trivial⟩
    refine meets_ent (pre := []) (post := []) (.cons hr .nil) host ((askN_comes rd k m e s b r h w f).trans ?_) nolv_ok
    have g : decide (s.length < 1000000) = true := g
    show (numT k m e s b (rd s)).run pure2 = pure2 (vR (bcond (k == 1) (nmR m e) (bcond (k == 3) (nmR (bcond b 1 0) 0) (bcond (k == 2) (bcond ((rd s).2.2 != 0) (errR 3) (nmR (rd s).1 (rd s).2.1)) (nmR 0 0))))) []
    unfold numT
    cases k == 1 with
    | true => rfl
    | false => cases k == 3 with
      | true => cases b <;> rfl
      | false => cases k == 2 with
        | true =>
          rw [brF rfl, brF rfl, brT rfl, chkT g]
          cases (rd s).2.2 != 0 <;> rfl
        | false => rfl
  · trivial
theorem askB_ok {sm : List UInt8 → List UInt8} (hr : EntOK Tryz.prog 46 (eSmF sm)) : EntOK Tryz.prog 76 (eAsk qLn (afB sm)) := fun args pre => by
  unfold eAsk
  split
  · rename_i k m e s b r h w f
    refine ⟨fun g => ?_, fun _ => trivial⟩
    refine meets_ent (pre := []) (post := []) (.cons hr .nil) host ((askB_comes sm k m e s b r h w f).trans ?_) nolv_ok
    have g : decide (s.length < 1000000) = true := g
    show (truT k m s b (sm s)).run pure2 = pure2 (vR (bcond (k == 1) (trR (m != 0)) (bcond (k == 3) (trR b) (bcond (k == 2) (bcond (sm s == sTrue) (trR true) (bcond (sm s == sFalse) (trR false) (errR 3))) (trR false))))) []
    unfold truT
    cases k == 1 with
    | true => rfl
    | false => cases k == 3 with
      | true => rfl
      | false => cases k == 2 with
        | true =>
          rw [brF rfl, brF rfl, brT rfl, chkT g]
          cases sm s == sTrue with
          | true => rfl
          | false => cases sm s == sFalse <;> rfl
        | false => rfl
  · trivial
end Go.Proofs.YtdomenmfkbfakaaGreatDoor

/- Layer 3: small letters in the place of great ones: letters.Small of any text. -/
set_option linter.unusedVariables false
set_option linter.unusedSimpArgs false
namespace Go.Proofs.YtdomenmfkbfakaaGreatDoor
open Go Sx
theorem sb_comes (c : Int) : Comes [] nolv 97 [.int .u8 c] [] (.br (decide (c ≥ 65)) (.br (decide (c ≤ 90)) (.ret (.int .u8 (IntKind.u8.wrap (IntKind.u8.wrap (c - 65) + 97))) []) (.ret (.int .u8 c) [])) (.ret (.int .u8 c) [])) := by unfold Comes; kernel_rfl
def sbI (c : Int) : Int := bcond (decide (65 ≤ c ∧ c ≤ 90)) (c + 32) c
def eSb (g : Int → Int) : Ent := fun args pre => match args, pre with
  | [.int .u8 c], [] => .chk (decide (0 ≤ c ∧ c < 256)) (.ret (.int .u8 (g c)) [])
  | _, _ => .fail
theorem eSb_ok : EntOK Tryz.prog 97 (eSb sbI) := fun args pre => by
  unfold eSb
  split
  · rename_i c
    refine ⟨fun g => ?_, fun _ => trivial⟩
    have g := of_decide_eq_true g
    refine meets_ent (pre := []) (post := []) .nil host ((sb_comes c).trans ?_) nolv_ok
    unfold sbI
    by_cases h1 : c ≥ 65
    · rw [brT (decide_eq_true h1)]
      by_cases h2 : c ≤ 90
      · rw [brT (decide_eq_true h2), decide_eq_true (show 65 ≤ c ∧ c ≤ 90 from ⟨h1, h2⟩), u8_in (n := c - 65) (by omega) (by omega), u8_in (by omega) (by omega), show c - 65 + 97 = c + 32 by omega]; rfl
      · rw [brF (decide_eq_false h2), decide_eq_false (fun h => h2 h.2)]; rfl
    · rw [brF (decide_eq_false h1), decide_eq_false (fun h => h1 h.1)]; rfl
  · trivial
def sSm (u : List UInt8) (n : Nat) (i : Int) : PState := ⟨nn 3 ++ some (.vec 0 n) :: (nn 4 ++ some (.vec 0 n) :: some (.int .i64 n) :: some (.int .i64 i) :: nn 12), some (.vecB u 5) :: nn 64⟩
def sSmX (u : List UInt8) (n : Nat) : PState := ⟨nn 3 ++ some (.vec 0 n) :: nn 19, some (.vecB u 5) :: nn 64⟩
noncomputable abbrev loopSml : Code := (loopBodies (bodyOf Tryz.f46)).headD .skip
def byI (u : List UInt8) (i : Int) : Int := byteAt u (i.toNat * 1)
def inB (u : List UInt8) (i : Int) : Bool := decide (i.toNat * 1 < u.length)
theorem rSml (g : Int → Int) (u : List UInt8) (n : Nat) (i : Int) : code (ent Tryz.prog [(97, eSb g)] nolv 64 1 20) Tryz.prog {} 0 64 1 loopSml (sSm u n i) (endK 0 64 (fun n => hasN [3, 8, 9, 10] n) (fun n => hasN [3] n))
  = bcond (decide (i < (n : Int))) (chks (chks (some (.normal, sSm (u.set (i.toNat * 1) (toByte (g (byI u i)))) n (up1 i))) [decide (0 ≤ byI u i ∧ byI u i < 256), ixN i n, inB u i && decide (0 ≤ g (byI u i) ∧ g (byI u i) < 256)]) [ixN i n, inB u i]) (some (.exit 0, sSmX u n)) := by kernel_rfl
def sbB (c : UInt8) : UInt8 := toByte (sbI (c.toNat : Int))
def smS (l : List UInt8) (p : Nat) : List UInt8 := (l.take p).map sbB ++ l.drop p
theorem smS_len {l : List UInt8} {p : Nat} (h : p ≤ l.length) : (smS l p).length = l.length := by unfold smS; simp; omega
theorem smS_get {l : List UInt8} {p : Nat} (h : p < l.length) : (smS l p).getD p 0 = l[p] := by
  unfold smS
  rw [List.drop_eq_getElem_cons h, List.getD_eq_getElem?_getD, List.getElem?_append_right (by simp; omega)]
  simp [show min p l.length = p by omega, List.getElem?_eq_getElem h]
theorem smS_next {l : List UInt8} {p : Nat} (h : p < l.length) : (smS l p).set p (sbB l[p]) = smS l (p + 1) := by
  have hl : ((l.take p).map sbB).length = p := by simp; omega
  unfold smS
  rw [List.drop_eq_getElem_cons h, List.take_succ_eq_append_getElem h, List.map_append, List.append_assoc, List.set_append_right _ _ (by omega), hl, Nat.sub_self]
  rfl
theorem sbI_bd {c : Int} (h : 0 ≤ c ∧ c < 256) : 0 ≤ sbI c ∧ sbI c < 256 := by
  unfold sbI
  by_cases g : 65 ≤ c ∧ c ≤ 90
  · rw [decide_eq_true g]; simp only [bcond]; omega
  · rw [decide_eq_false g]; simp only [bcond]; omega
theorem loopSm {l : List UInt8} (hl : l.length ≤ 9223372036854775807) : Tri Tryz.prog (.loop loopSml) (sSm l l.length 0).toA (.exit 0) (sSmX (l.map sbB) l.length).toA 0 := by
  have key := loop_rounds (ent_sound (T := [(97, eSb sbI)]) (.cons eSb_ok .nil) host nolv_ok (NF := 64) (m := 1) 20) (NF := 64) (m := 1) (x := loopSml) (K := 0) loops_none (fun n => hasN [3, 8, 9, 10] n) (fun n => hasN [3] n) (ι := { p : Nat // p ≤ l.length }) (fun p => sSm (smS l p.1) l.length (p.1 : Int)) (fun p => l.length - p.1) (fun p => (.exit 0, sSmX (l.map sbB) l.length)) ?_ (fun j => by simp) ⟨0, Nat.zero_le _⟩
  · have e : smS l 0 = l := by unfold smS; simp
    simp only [e] at key
    exact key
  rintro ⟨p, hp⟩
  simp only
  have rd := rSml sbI (smS l p) l.length (p : Int)
  by_cases h : p < l.length
  · have eb : byI (smS l p) (p : Int) = (l[p].toNat : Int) := by unfold byI; rw [Int.toNat_natCast, Nat.mul_one, byteAt_nat, smS_get h]
    have hb : 0 ≤ ((l[p].toNat : Nat) : Int) ∧ ((l[p].toNat : Nat) : Int) < 256 := ⟨by omega, by have := UInt8.toNat_lt l[p]; omega⟩
    have hi : inB (smS l p) (p : Int) = true := by unfold inB; rw [smS_len hp]; exact decide_eq_true (by omega)
    rw [bcT (decide_eq_true (by omega)), chks_true (all2 (ixN_nat h) hi), eb, chks_true (all3' (decide_eq_true hb) (ixN_nat h) (by rw [hi, decide_eq_true (sbI_bd hb)]; rfl)), up1_63 (by omega), Int.toNat_natCast, Nat.mul_one] at rd
    refine .inl ⟨⟨p + 1, h⟩, by simp only; omega, trivial, ?_⟩
    rw [rd, show toByte (sbI (l[p].toNat : Int)) = sbB l[p] from rfl, smS_next h]
  · obtain rfl : p = l.length := by omega
    rw [bcF (decide_eq_false (by omega))] at rd
    have e : smS l l.length = l.map sbB := by unfold smS; simp
    exact .inr (by rw [rd, e])
def outSm (n : Nat) (c : Bool) (u : List UInt8) : LAns := .chk c (.out (.exit 0) (sSmX u n))
noncomputable def lvSm (l : List UInt8) (c : Bool) (u : List UInt8) : FuncId → Lv := lvOf 46 (fun _ => some [3, 8, 9, 10]) (oneL 3 (eAt 0 (sSm l l.length 0) (outSm l.length c u)))
theorem sm_comes (l u : List UInt8) (c : Bool) : Comes [] (lvSm l c u) 46 [.str l] [] (.chk (eqSt (sSm l l.length 0) (sSm l l.length 0)) (.chk c (.chk (decide (l.length ≤ u.length)) (.ret (.str (u.take l.length)) [])))) := by unfold Comes; kernel_rfl
def smallL (l : List UInt8) : List UInt8 := l.map sbB
theorem eSmF_ok : EntOK Tryz.prog 46 (eSmF smallL) := fun args pre => by
  unfold eSmF
  split
  · rename_i l
    refine ⟨fun g => ?_, fun _ => trivial⟩
    have g := of_decide_eq_true g
    refine meets_ent (pre := []) (post := []) .nil host ((sm_comes l (smallL l) true).trans ?_) (lvOne_ok (x := loopSml) Tryz.func46 (by kernel_rfl) fun K t => eAt_ok (a := outSm l.length true (smallL l)) ⟨fun _ => loopSm (by omega), fun _ => trivial⟩ K t)
    have hl : (smallL l).length = l.length := by unfold smallL; simp
    rw [chkT (eqSt_refl _), chkT rfl, chkT (decide_eq_true (by omega)), ← hl, List.take_length]; rfl
  · trivial
end Go.Proofs.YtdomenmfkbfakaaGreatDoor

/- Layer 3: dec.Read and dec.Text as entries; what is told of a plain value as a text. -/
set_option linter.unusedVariables false
set_option linter.unusedSimpArgs false
namespace Go.Proofs.YtdomenmfkbfakaaGreatDoor
open Go Sx
theorem eRdF_ok : EntOK Tryz.prog 44 (eRdF Dq.readR) := fun args pre => by
  unfold eRdF
  split
  · exact ⟨fun g => Dq.read_meets _ (of_decide_eq_true g), fun _ => trivial⟩
  · trivial
/-- The text of a decimal. -/
def decS (m e : Int) : List UInt8 := (Dq.textR m e).1
theorem eDtF_ok : EntOK Tryz.prog 33 (eDtF decS) := fun args pre => by
  unfold eDtF
  split
  · rename_i m e
    refine ⟨fun g => ?_, fun _ => trivial⟩
    have h := Dq.text_meets m e
    have e2 : (Dq.textR m e).2 = 0 := by unfold Dq.textR; rw [if_pos g]
    rw [e2] at h
    exact h
  · trivial
section
variable (dt : Int → Int → List UInt8) (k m e : Int) (s : List UInt8) (b : Bool) (r h w f : Int)
def sT4 : List UInt8 := [84, 82, 85, 69]
def sF5 : List UInt8 := [70, 65, 76, 83, 69]
def wrT (g : Bool) (t : List UInt8) : Ans := .br (k == 1) (.chk g (rowA (txR t))) (.br (k == 2) (rowA (txR s)) (.br (k == 3) (.br b (rowA (txR sT4)) (rowA (txR sF5))) (rowA (txR []))))
end
def kT (k m e : Int) (s : List UInt8) (b : Bool) (t : List UInt8) : List CV := bcond (k == 1) (txR t) (bcond (k == 2) (txR s) (bcond (k == 3) (txR (bcond b sT4 sF5)) (txR [])))
theorem askT_comes (dt : Int → Int → List UInt8) (k m e : Int) (s : List UInt8) (b : Bool) (r h w f : Int) (hk : k = 0 ∨ k = 1 ∨ k = 2 ∨ k = 3) : Comes [(33, eDtF dt)] nolv 74 [vL k m e s b r h w .nilslice f] [] (wrT k s b (Dq.rightB m e) (dt m e)) := by
  rcases hk with rfl | rfl | rfl | rfl <;> (unfold Comes; kernel_rfl)
/-- A value as a text: which values, and what. -/
def qTx (x : List CV) : Bool := decide (0 ≤ rk x ∧ rk x ≤ 3) && (rk x != 1 || Dq.rightB (rm x) (re x))
def afT (dt : Int → Int → List UInt8) (x : List CV) : List CV := kT (rk x) (rm x) (re x) (rs x) (rb x) (dt (rm x) (re x))
theorem askT_ok {dt : Int → Int → List UInt8} (hr : EntOK Tryz.prog 33 (eDtF dt)) : EntOK Tryz.prog 74 (eAsk qTx (afT dt)) := fun args pre => by
  unfold eAsk
  split
  · rename_i k m e s b r h w f
    refine ⟨fun g => ?_, fun _ => trivial⟩
    have g : (decide (0 ≤ k ∧ k ≤ 3) && (k != 1 || Dq.rightB m e)) = true := g
    rw [Bool.and_eq_true, decide_eq_true_eq] at g
    refine meets_ent (pre := []) (post := []) (.cons hr .nil) host ((askT_comes dt k m e s b r h w f (by omega)).trans ?_) nolv_ok
    show (wrT k s b (Dq.rightB m e) (dt m e)).run pure2 = pure2 (vR (kT k m e s b (dt m e))) []
    unfold wrT kT
    cases h1 : k == 1 with
    | true =>
      have g2 := g.2
      rw [bne, h1] at g2
      rw [brT rfl, chkT (by simpa using g2)]; rfl
    | false => cases k == 2 with
      | true => rfl
      | false => cases k == 3 with
        | true => cases b <;> rfl
        | false => rfl
  · trivial
/-- Texts of signs below 128. -/
def ascB (c : UInt8) : Bool := Nat.ble 32 c.toNat && Nat.ble c.toNat 126
theorem Sg_asc : ∀ l : List UInt8, l.all ascB = true → Sg l
  | [], _ => .nil
  | c :: t, h => by
    rw [List.all_cons, Bool.and_eq_true] at h
    obtain ⟨h1, h2⟩ := h
    unfold ascB at h1
    rw [Bool.and_eq_true] at h1
    have a1 := Nat.le_of_ble_eq_true h1.1
    have a2 := Nat.le_of_ble_eq_true h1.2
    have e : signN [c] = 1 := by unfold signN; simp; omega
    have := Sg.cons (L := [c]) (t := t) (by rw [e]; decide) (by simp; omega) (by simp; omega) (Sg_asc t h2)
    rw [e] at this
    exact this
theorem chB_asc {d : Int} (h : 0 ≤ d ∧ d < 10) : ascB (Dq.chB d) = true := by
  have : d = 0 ∨ d = 1 ∨ d = 2 ∨ d = 3 ∨ d = 4 ∨ d = 5 ∨ d = 6 ∨ d = 7 ∨ d = 8 ∨ d = 9 := by omega
  rcases this with rfl | rfl | rfl | rfl | rfl | rfl | rfl | rfl | rfl | rfl <;> rfl
end Go.Proofs.YtdomenmfkbfakaaGreatDoor

/- Layer 3: what is told of a value that is right is right. -/
set_option linter.unusedVariables false
set_option linter.unusedSimpArgs false
namespace Go.Proofs.YtdomenmfkbfakaaGreatDoor
open Go Sx
theorem nearM_right {ds : List Int} (hd : Dc.Dig ds) (mx : Bool) : Dq.rightB (Dq.nearM mx ds).1 (Dq.nearM mx ds).2 = true := by
  unfold Dq.nearM
  cases h : Dq.nearGo ds 19 0 with
  | none => rfl
  | some p =>
    obtain ⟨N, e⟩ := p
    have hb := Dq.nearGo_bounds hd 19 0 N e rfl h
    have : (if mx = true then -N else N).natAbs = N.natAbs := by split <;> omega
    exact trimmedS_right ⟨hb.2.2.1, hb.2.2.2⟩ (by omega)
theorem readR_right (s : List UInt8) : Dq.rightB (Dq.readR s).1 (Dq.readR s).2.1 = true := by
  unfold Dq.readR
  split
  · split
    · exact nearM_right (Dc.digs_dig 88 (Dq.wrS s)) (Dq.minusB s)
    · rfl
  · rfl
theorem rig_nm {m e : Int} (h : Dq.rightB m e = true) : rigR isTx (nmR m e) = true := by
  show (Dq.rightB m e && zF 0 0 [] false 0 0 0 0) = true
  rw [h]; rfl
theorem rig_tx {s : List UInt8} (h : isTx s = true) : rigR isTx (txR s) = true := by
  show (isTx s && zF 0 0 [] false 0 0 0 0) = true
  rw [h]; rfl
theorem rig_tr (b : Bool) : rigR isTx (trR b) = true := by cases b <;> rfl
theorem rig_err {n : Int} (h : 1 ≤ n ∧ n ≤ 9) : rigR isTx (errR n) = true := by
  show (decide (1 ≤ n ∧ n ≤ 9) && zF 0 0 [] false 0 0 0 0) = true
  rw [decide_eq_true h]; rfl
theorem afN_right {x : List CV} (h : rk x = 1 → Dq.rightB (rm x) (re x) = true) : rigR isTx (afN Dq.readR x) = true := by
  unfold afN
  cases h1 : rk x == 1 with
  | true => exact rig_nm (h (beq_iff_eq.1 h1))
  | false => cases rk x == 3 with
    | true => cases rb x <;> exact rig_nm (by rfl)
    | false => cases rk x == 2 with
      | true => cases (Dq.readR (rs x)).2.2 != 0 with
        | true => exact rig_err (by decide)
        | false => exact rig_nm (readR_right _)
      | false => exact rig_nm (by rfl)
theorem afB_right (x : List CV) : rigR isTx (afB smallL x) = true := by
  unfold afB
  cases rk x == 1 with
  | true => exact rig_tr _
  | false => cases rk x == 3 with
    | true => exact rig_tr _
    | false => cases rk x == 2 with
      | true => cases smallL (rs x) == sTrue with
        | true => exact rig_tr _
        | false => cases smallL (rs x) == sFalse with
          | true => exact rig_tr _
          | false => exact rig_err (by decide)
      | false => exact rig_tr _
theorem txt_asc {ds : List Int} (hd : ∀ i, 0 ≤ ds.getD i 0 ∧ ds.getD i 0 ≤ 9) (a : Nat) : ∀ n, (Dq.txt ds a n).all ascB = true
  | 0 => rfl
  | n + 1 => by
    rw [Dq.txt, List.all_append, List.all_append, txt_asc hd a n]
    have h1 : ([Dq.chB (ds.getD (a + n) 0)] : List UInt8).all ascB = true := by rw [List.all_cons, chB_asc (by have := hd (a + n); omega)]; rfl
    rw [h1]
    split <;> rfl
theorem decS_ok {m e : Int} (h : Dq.rightB m e = true) : isTx (decS m e) = true := by
  have hd := Dc.digs_dig 88 (Dq.aV m e)
  unfold decS Dq.textR
  rw [if_pos h]
  unfold Dq.textB
  generalize Dq.fstGo (Dc.digs 88 (Dq.aV m e)) 47 0 = a
  have hb : Dq.lstGo (Dc.digs 88 (Dq.aV m e)) 40 88 ≤ 88 := (Dq.lstGo_ge _ 40 88 (by omega)).2
  generalize Dq.lstGo (Dc.digs 88 (Dq.aV m e)) 40 88 = b at *
  have h1 := txt_asc (fun i => hd.getD i) a (b - a)
  have h2 := Dq.txt_len (Dc.digs 88 (Dq.aV m e)) a (b - a)
  generalize Dq.txt (Dc.digs 88 (Dq.aV m e)) a (b - a) = t at *
  have hs : ((if decide (m < 0) = true then [45] else []) ++ t : List UInt8).all ascB = true := by
    rw [List.all_append, h1]; split <;> rfl
  unfold isTx
  rw [(Sg_asc _ hs).text, decide_eq_true (by rw [List.length_append]; split <;> simp <;> omega)]; rfl
theorem afT_right {x : List CV} (hk : rk x = 1 → Dq.rightB (rm x) (re x) = true) (ht : rk x = 2 → isTx (rs x) = true) : rigR isTx (afT decS x) = true := by
  unfold afT kT
  cases h1 : rk x == 1 with
  | true => exact rig_tx (decS_ok (hk (beq_iff_eq.1 h1)))
  | false => cases h2 : rk x == 2 with
    | true => exact rig_tx (ht (beq_iff_eq.1 h2))
    | false => cases rk x == 3 with
      | true => cases rb x <;> exact rig_tx (by kernel_rfl)
      | false => exact rig_tx (by kernel_rfl)
end Go.Proofs.YtdomenmfkbfakaaGreatDoor

/- Law 3: what is told of an array is told one by one (ValEach): the law's tree. -/
set_option linter.unusedVariables false
set_option linter.unusedSimpArgs false
namespace Go.Proofs.YtdomenmfkbfakaaGreatDoor
open Go Sx
open Classical in
/-- What is told, of arrays that are right and of plain values. -/
noncomputable def eToA (tx : List UInt8 → Bool) (af : List CV → List CV) (q : List CV → Bool) : Ent := fun args pre => match args, pre with
  | [.agg [.int .i64 k, .int .i64 m, .int .i64 e, .str s, .bool b, .int .i64 r, .int .i64 h, .int .i64 w, l, .int .i64 f, .nilslice, .nilslice]], [o] =>
    match rowsIn 0 l o with
    | some (a, R) => .chk (k == 5) (.chk (decide (okRows a R)) (.chk (rightA tx m e s b r h w f a R) (.chk (decide (okD q a R)) (.ret (vL 5 0 0 [] false 0 h w (.vec 1 a) 0) [o, vR34 (tldL af a R a)]))))
    | none => .fail
  | [.agg [.int .i64 k, .int .i64 m, .int .i64 e, .str s, .bool b, .int .i64 r, .int .i64 h, .int .i64 w, .nilslice, .int .i64 f, .nilslice, .nilslice]], [] =>
    .chk (decide (0 ≤ k ∧ k ≤ 4)) (.chk (decide (s.length ≤ 1000000)) (.chk (k == 4 || q (mkR k m e s b r h w f)) (.ret (vR (tellP tx af k m e s b r h w f)) [])))
  | _, _ => .fail
theorem eToA_ok {tx : List UInt8 → Bool} {af : List CV → List CV} {q : List CV → Bool} {g : FuncId} (h : EntOK Tryz.prog g (eTo tx af q)) : EntOK Tryz.prog g (eToA tx af q) := fun args pre => by
  have := h args pre
  unfold eTo at this
  unfold eToA
  split
  · split
    · rename_i hs
      simp only [hs] at this
      exact ⟨fun g1 => ⟨fun g2 => ⟨fun g3 => ((this.1 g1).1 g2).1 g3, fun _ => trivial⟩, fun _ => trivial⟩, fun _ => trivial⟩
    · trivial
  · exact this
  · trivial
section
variable (tx : List UInt8 → Bool) (H W i j : Int) (N : Nat) (L : List (List CV))
def gEa : List CV := getA tx 0 0 [] false 0 H W 0 N L i j
abbrev tellRa (af : List CV → List CV) (x : List CV) : List CV := tellP tx af (rk x) (rm x) (re x) (rs x) (rb x) (rr x) (rh x) (rw_ x) (rf x)
open Classical in
noncomputable def oneTa (af : List CV → List CV) (q : List CV → Bool) (x : List CV) (X : Bool → Ans) : Ans :=
  .chk (decide (okRows N L)) (.chk (rightA tx 0 0 [] false 0 H W 0 N L) (.chk (decide (okD q N L)) (.chk (decide (okRows N (tldL af N L N))) (.chk (decide (0 ≤ rk x ∧ rk x ≤ 4)) (.chk (decide ((rs x).length ≤ 1000000)) (.chk (rk x == 4 || q (nrm x)) (X (samR (gEa tx H W i j N (tldL af N L N)) (tellRa tx af x)))))))))
end
noncomputable def tEa (f : FV) (tx : List UInt8 → Bool) (a1 a2 a3 : List CV → List CV) (q1 q2 q3 : List CV → Bool) : Tab := [(11, eTrue), (13, eArr f), (29, eToA tx a1 q1), (30, eToA tx a2 q2), (31, eToA tx a3 q3), (26, eSam), (22, eGet tx), (24, ePick)]
open Classical in
theorem ea_comes (f : FV) (tx : List UInt8 → Bool) (a1 a2 a3 : List CV → List CV) (q1 q2 q3 : List CV → Bool) (h w p0 p1 : Int) (a : Nat) (R : List (List CV)) : Comes (tEa f tx a1 a2 a3 q1 q2 q3) nolv 8 [.int .i64 h, .int .i64 w, .dsl 0 a, .agg [.int .i64 p0, .int .i64 p1]] [fW R]
  (.chk (inI h) (.chk (inI w) (.chk (decide (okW a R)) (.chk (inI p0) (.chk (inI p1) (.chk (decide (okRows (nA h w) (arL f a R (nA h w))))
    (oneTa tx (sz5 h) (sz5 w) (pickS p0 6) (pickS p1 6) (nA h w) (arL f a R (nA h w)) a1 q1 (gEa tx (sz5 h) (sz5 w) (pickS p0 6) (pickS p1 6) (nA h w) (arL f a R (nA h w))) fun b1 => .br b1
      (oneTa tx (sz5 h) (sz5 w) (pickS p0 6) (pickS p1 6) (nA h w) (arL f a R (nA h w)) a2 q2 (gEa tx (sz5 h) (sz5 w) (pickS p0 6) (pickS p1 6) (nA h w) (arL f a R (nA h w))) fun b2 => .br b2
        (oneTa tx (sz5 h) (sz5 w) (pickS p0 6) (pickS p1 6) (nA h w) (arL f a R (nA h w)) a3 q3 (gEa tx (sz5 h) (sz5 w) (pickS p0 6) (pickS p1 6) (nA h w) (arL f a R (nA h w))) fun b3 => fwB R b3)
        (fwB R false)) (fwB R false)))))))) := by unfold Comes; kernel_rfl
end Go.Proofs.YtdomenmfkbfakaaGreatDoor

/- Law 3: what is told of an array is told one by one (ValEach): it is so. -/
set_option linter.unusedVariables false
set_option linter.unusedSimpArgs false
set_option linter.unusedSectionVars false
namespace Go.Proofs.YtdomenmfkbfakaaGreatDoor
open Go Sx
theorem sameF_s {m e : Int} {s : List UInt8} {b : Bool} {r h w f : Int} (c : zF m e s b r h w f = true) : s = [] := by
  unfold zF sameF at c
  simp only [Bool.and_eq_true, beq_iff_eq] at c
  exact c.2.2.2.1
/-- What a plain value that is right is like. -/
theorem rightF_facts {k m e : Int} {s : List UInt8} {b : Bool} {r h w f : Int} (c : rightF isTx k m e s b r h w f = true) : (0 ≤ k ∧ k ≤ 4) ∧ s.length ≤ 200 ∧ (k = 1 → Dq.rightB m e = true) ∧ (k = 2 → isTx s = true) ∧ (k = 4 → 1 ≤ r ∧ r ≤ 9) := by
  unfold rightF at c
  split at c
  · rename_i hk; subst hk
    rw [sameF_s c]
    exact ⟨by decide, by simp, fun h => (by cases h), fun h => (by cases h), fun h => (by cases h)⟩
  split at c
  · rename_i _ hk; subst hk
    rw [Bool.and_eq_true] at c
    rw [sameF_s c.2]
    exact ⟨by decide, by simp, fun _ => c.1, fun h => (by cases h), fun h => (by cases h)⟩
  split at c
  · rename_i _ _ hk; subst hk
    rw [Bool.and_eq_true] at c
    have l := c.1
    unfold isTx at l
    rw [Bool.and_eq_true, decide_eq_true_eq] at l
    exact ⟨by decide, l.1, fun h => (by cases h), fun _ => c.1, fun h => (by cases h)⟩
  split at c
  · rename_i _ _ _ hk; subst hk
    rw [sameF_s c]
    exact ⟨by decide, by simp, fun h => (by cases h), fun h => (by cases h), fun h => (by cases h)⟩
  split at c
  · rename_i _ _ _ _ hk; subst hk
    rw [Bool.and_eq_true, decide_eq_true_eq] at c
    rw [sameF_s c.2]
    exact ⟨by decide, by simp, fun h => (by cases h), fun h => (by cases h), fun _ => c.1⟩
  · cases c
theorem rig_at {tx : List UInt8 → Bool} {R : List (List CV)} : ∀ (n i : Nat), rigFrom tx R n i = true → ∀ j, i ≤ j → j < i + n → rigR tx (Sx.rowAt R j) = true
  | 0, i, _, j, h1, h2 => by omega
  | n + 1, i, h, j, h1, h2 => by
    rw [rigFrom, Bool.and_eq_true] at h
    by_cases e : i = j
    · subst e; exact h.1
    · exact rig_at n (i + 1) h.2 j (by omega) (by omega)
theorem plR_of {x : List CV} (h : rigR isTx x = true) : plR x = true := by
  have := rightF_facts h
  unfold plR
  rw [decide_eq_true this.1, decide_eq_true (show (rs x).length ≤ 1000000 by omega)]; rfl
/-- What is asked of a function that tells of plain values: it takes those that are right, and what it tells is right. -/
def afOk (af : List CV → List CV) (q : List CV → Bool) : Prop := ∀ x, rigR isTx x = true → rk x ≠ 4 → rigR isTx (af x) = true ∧ q x = true
theorem afN_ok : afOk (afN Dq.readR) qLn := fun x h _ => by
  have c := rightF_facts h
  exact ⟨afN_right c.2.2.1, decide_eq_true (by omega)⟩
theorem afB_ok : afOk (afB smallL) qLn := fun x h _ => by
  have c := rightF_facts h
  exact ⟨afB_right x, decide_eq_true (by omega)⟩
theorem afT_ok : afOk (afT decS) qTx := fun x h h4 => by
  have c := rightF_facts h
  refine ⟨afT_right c.2.2.1 c.2.2.2.1, ?_⟩
  unfold qTx
  rw [decide_eq_true (by omega), Bool.true_and]
  by_cases h1 : rk x = 1
  · rw [c.2.2.1 h1, Bool.or_true]
  · rw [bne_iff_ne.2 h1]; rfl
section
variable {af : List CV → List CV} {q : List CV → Bool} (ha : afOk af q)
include ha
theorem oneF_rig {x : List CV} (h : rigR isTx x = true) : rigR isTx (oneF af x) = true := by
  unfold oneF
  cases h4 : rk x == 4 with
  | true => exact rig_err ((rightF_facts h).2.2.2.2 (beq_iff_eq.1 h4))
  | false => exact (ha (nrm x) h (beq_eq_false_iff_ne.1 h4)).1
theorem q_row {x : List CV} (h : rigR isTx x = true) : (rk x == 4 || q (nrm x)) = true := by
  cases h4 : rk x == 4 with
  | true => rfl
  | false => exact (ha (nrm x) h (beq_eq_false_iff_ne.1 h4)).2
theorem tell_one {x : List CV} (h : rigR isTx x = true) : samR (oneF af x) (tellRa isTx af x) = true := by
  unfold oneF tellRa tellP
  rw [show rightF isTx (rk x) (rm x) (re x) (rs x) (rb x) (rr x) (rh x) (rw_ x) (rf x) = true from h]
  cases rk x == 4 with
  | true => exact samR_nrm _
  | false => exact samR_nrm _
variable {H W : Int} {N : Nat} {L : List (List CV)} (h1 : 1 ≤ H ∧ H ≤ 5) (h2 : 1 ≤ W ∧ W ≤ 5) (hN : (N : Int) = H * W) (h25 : N ≤ 25) (hL : okRows N L) (rL : rigFrom isTx L N 0 = true)
include h1 h2 hN h25 hL rL
theorem okD_ar : okD q N L := ⟨hL.1, hL.2.1, fun i hi => by
  have := q_row ha (rig_at N 0 rL i (by omega) (by omega))
  rwa [Bool.or_eq_true] at this⟩
theorem rig_tld : rigFrom isTx (tldL af N L N) N 0 = true := rigFrom_of N 0 fun j _ h => by
  rw [tldL_at N j (by omega) (Nat.le_refl _)]
  exact oneF_rig ha (rig_at N 0 rL j (by omega) (by omega))
theorem okRows_tld : okRows N (tldL af N L N) := ⟨by rw [tldL_len]; omega, hL.2.1, fun j hj => by
  rw [tldL_at N j hj (Nat.le_refl _)]
  exact plR_of (oneF_rig ha (rig_at N 0 rL j (by omega) (by omega)))⟩
theorem samR_ea {i j : Int} (hi : 0 ≤ i) (hj : 0 ≤ j) : rigR isTx (atG H W L i j) = true ∧ samR (atG H W (tldL af N L N) i j) (tellRa isTx af (atG H W L i j)) = true := by
  unfold atG
  generalize hi' : (if H = 1 then (0 : Int) else i) = i'
  generalize hj' : (if W = 1 then (0 : Int) else j) = j'
  have b1 : 0 ≤ i' := by rw [← hi']; split <;> omega
  have b2 : 0 ≤ j' := by rw [← hj']; split <;> omega
  simp only
  by_cases c : i < 0 ∨ j < 0 ∨ H ≤ i' ∨ W ≤ j'
  · rw [if_pos c, if_pos c]; exact ⟨by rfl, by rfl⟩
  · rw [if_neg c, if_neg c]
    have b3 : i' * W ≤ (H - 1) * W := Int.mul_le_mul_of_nonneg_right (by omega) (by omega)
    have b4 : 0 ≤ i' * W := Int.mul_nonneg b1 (by omega)
    rw [Int.sub_mul, Int.one_mul, ← hN] at b3
    have b5 : (i' * W + j').toNat < N := by omega
    generalize (i' * W + j').toNat = p at b5
    rw [tldL_at N p b5 (Nat.le_refl _)]
    have := rig_at N 0 rL p (by omega) (by omega)
    exact ⟨this, tell_one ha this⟩
open Classical in
theorem oneTa_run {i j : Int} (hi : 0 ≤ i) (hj : 0 ≤ j) {X : Bool → Ans} {r : Option (AV × List PObj)} (hX : (X true).run pure2 = r) : (oneTa isTx H W i j N L af q (gEa isTx H W i j N L) X).run pure2 = r := by
  have g1 := grid_ok h1 h2 hN rL
  have g2 := grid_ok h1 h2 hN (rig_tld ha h1 h2 hN h25 hL rL)
  have e1 : gEa isTx H W i j N L = atG H W L i j := by unfold gEa getA; rw [g1]; rfl
  have e2 : gEa isTx H W i j N (tldL af N L N) = atG H W (tldL af N L N) i j := by unfold gEa getA; rw [g2]; rfl
  obtain ⟨s1, s2⟩ := samR_ea ha h1 h2 hN h25 hL rL hi hj
  have c := rightF_facts s1
  unfold oneTa
  rw [e1, e2, s2, chkT (decide_eq_true hL), chkT g1, chkT (decide_eq_true (okD_ar ha h1 h2 hN h25 hL rL)), chkT (decide_eq_true (okRows_tld ha h1 h2 hN h25 hL rL)), chkT (decide_eq_true c.1), chkT (decide_eq_true (by omega)), chkT (q_row ha s1)]
  exact hX
end
theorem tEa_ok (hf : EntOK Tryz.prog 12 (eVal valR)) (ha : EntOK Tryz.prog 11 eTrue) : TabOK Tryz.prog (tEa valR isTx (afN Dq.readR) (afT decS) (afB smallL) qLn qTx qLn) :=
  .cons ha (.cons (eArr_ok hf) (.cons (eToA_ok (eTon_ok eIsT_ok (askN_ok eRdF_ok))) (.cons (eToA_ok (eTot_ok eIsT_ok (askT_ok eDtF_ok))) (.cons (eToA_ok (eTob_ok eIsT_ok (askB_ok eSmF_ok))) (.cons eSam_ok (.cons (eGet_ok eIsT_ok) (.cons ePick_ok .nil)))))))
open Classical in
theorem ea_meets {h w p0 p1 : Int} {a : Nat} {R : List (List CV)} (hh : inI h = true) (hw : inI w = true) (h0 : inI p0 = true) (h1 : inI p1 = true) (hR : okW a R) (hf : EntOK Tryz.prog 12 (eVal valR)) (ha : EntOK Tryz.prog 11 eTrue) :
    Meets Tryz.prog 8 [.int .i64 h, .int .i64 w, .dsl 0 a, .agg [.int .i64 p0, .int .i64 p1]] [.flatR false shW R] (.bool true) [.flatR false shW R] := by
  have b1 := sz5_bd h
  have b2 := sz5_bd w
  obtain ⟨n1, n2, n3⟩ := nA_bd h w
  have i1 := pickS_bd (a := p0) (n := 6) (by decide)
  have i2 := pickS_bd (a := p1) (n := 6) (by decide)
  have rl := rig_ar (a := a) (R := R) (N := nA h w)
  have ol := okRows_ar (a := a) (R := R) n3
  refine meets_ent (pre := [fW R]) (post := [fW R]) (tEa_ok hf ha) host ((ea_comes valR isTx (afN Dq.readR) (afT decS) (afB smallL) qLn qTx qLn h w p0 p1 a R).trans ?_) nolv_ok
  rw [chkT hh, chkT hw, chkT (decide_eq_true hR), chkT h0, chkT h1, chkT (decide_eq_true ol)]
  refine oneTa_run afN_ok b1 b2 n1 n3 ol rl i1.1 i2.1 ?_
  rw [brT rfl]
  refine oneTa_run afT_ok b1 b2 n1 n3 ol rl i1.1 i2.1 ?_
  rw [brT rfl]
  refine oneTa_run afB_ok b1 b2 n1 n3 ol rl i1.1 i2.1 ?_
  rfl
end Go.Proofs.YtdomenmfkbfakaaGreatDoor
