/- Layer 3: what is put in (val.Read), what is written of a plain value (val.Text): the trees. -/
import Derived.Test.YtdomenmfkbfakaaGreatDoorGr09
import Derived.Test.YtdomenmfkbfakaaGreatDoorOrE0
import Derived.Test.YtdomenmfkbfakaaGreatDoorOrE1
import Derived.Test.YtdomenmfkbfakaaGreatDoorOrE2
set_option linter.unusedVariables false
set_option linter.unusedSimpArgs false
namespace Go.Proofs.YtdomenmfkbfakaaGreatDoor
open Go Sx
abbrev l1 (c : UInt8) : Int := ((([c] : List UInt8).length : Nat) : Int)
def zP : List CV := mkR 0 0 0 [] false 0 0 0 0
section
variable (p : List UInt8 → List UInt8 → Bool) (rd : List UInt8 → Int × Int × Int) (sm : List UInt8 → List UInt8) (tx : List UInt8 → Bool)
end
section
variable (tx : List UInt8 → Bool) (dt : Int → Int → List UInt8) (lt : List UInt8 → List UInt8) (m e : Int) (s : List UInt8) (b : Bool) (r h w f : Int)
end
end Go.Proofs.YtdomenmfkbfakaaGreatDoor

/- Layer 3: what is put in and what is written: of plain values. -/
set_option linter.unusedVariables false
set_option linter.unusedSimpArgs false
set_option linter.unusedSectionVars false
namespace Go.Proofs.YtdomenmfkbfakaaGreatDoor
open Go Sx
-- what begins so
/-- What plain values there are that are right. -/
theorem rig_shape {x : List CV} (h : rigR isTx x = true) : nrm x = zP ∨ (∃ m e, Dq.rightB m e = true ∧ nrm x = nmR m e) ∨ (∃ s, isTx s = true ∧ nrm x = txR s) ∨ (∃ b, nrm x = trR b) ∨ ∃ r, (1 ≤ r ∧ r ≤ 9) ∧ nrm x = errR r := by
  have c := rightF_facts h
  unfold rigR nrm at *
  generalize rk x = k at *
  generalize rm x = m at *
  generalize re x = e at *
  generalize rs x = s at *
  generalize rb x = b at *
  generalize rr x = r at *
  generalize rh x = h' at *
  generalize rw_ x = w at *
  generalize rf x = f at *
  have hk : k = 0 ∨ k = 1 ∨ k = 2 ∨ k = 3 ∨ k = 4 := by omega
  have zf : ∀ {m e : Int} {s : List UInt8} {b : Bool} {r h w f : Int}, zF m e s b r h w f = true → m = 0 ∧ e = 0 ∧ s = [] ∧ b = false ∧ r = 0 ∧ h = 0 ∧ w = 0 ∧ f = 0 := by
    intro m e s b r h w f hz
    unfold zF sameF at hz
    simp only [Bool.and_eq_true, beq_iff_eq] at hz
    exact hz.2
  rcases hk with rfl | rfl | rfl | rfl | rfl
  · have h : zF m e s b r h' w f = true := h
    obtain ⟨rfl, rfl, rfl, rfl, rfl, rfl, rfl, rfl⟩ := zf h
    exact .inl rfl
  · have h : (Dq.rightB m e && zF 0 0 s b r h' w f) = true := h
    rw [Bool.and_eq_true] at h
    obtain ⟨_, _, rfl, rfl, rfl, rfl, rfl, rfl⟩ := zf h.2
    exact .inr (.inl ⟨m, e, h.1, rfl⟩)
  · have h : (isTx s && zF m e [] b r h' w f) = true := h
    rw [Bool.and_eq_true] at h
    obtain ⟨rfl, rfl, _, rfl, rfl, rfl, rfl, rfl⟩ := zf h.2
    exact .inr (.inr (.inl ⟨s, h.1, rfl⟩))
  · have h : zF m e s false r h' w f = true := h
    obtain ⟨rfl, rfl, rfl, _, rfl, rfl, rfl, rfl⟩ := zf h
    exact .inr (.inr (.inr (.inl ⟨b, rfl⟩)))
  · have h : (decide (1 ≤ r ∧ r ≤ 9) && zF m e s b 0 h' w f) = true := h
    rw [Bool.and_eq_true] at h
    obtain ⟨rfl, rfl, rfl, rfl, _, rfl, rfl, rfl⟩ := zf h.2
    exact .inr (.inr (.inr (.inr ⟨r, of_decide_eq_true h.1, rfl⟩)))
end Go.Proofs.YtdomenmfkbfakaaGreatDoor

/- Law 3: values are in one order (ValOrder): it is so. -/
set_option linter.unusedVariables false
set_option linter.unusedSimpArgs false
set_option linter.unusedSectionVars false
namespace Go.Proofs.YtdomenmfkbfakaaGreatDoor
open Go Sx
theorem rr_bd {x : List CV} (h : rigR isTx x = true) : 0 ≤ rr x ∧ rr x ≤ 9 := by
  have e : rr x = rr (nrm x) := rfl
  rw [e]
  rcases rig_shape h with h | ⟨m, e, hr, h⟩ | ⟨s, hs, h⟩ | ⟨b, h⟩ | ⟨r, hr, h⟩
  · rw [h]; decide
  · rw [h]; exact ⟨Int.le_refl _, by show (0 : Int) ≤ 9; decide⟩
  · rw [h]; exact ⟨Int.le_refl _, by show (0 : Int) ≤ 9; decide⟩
  · rw [h]; exact ⟨Int.le_refl _, by show (0 : Int) ≤ 9; decide⟩
  · rw [h]; show 0 ≤ r ∧ r ≤ 9; omega
theorem okW_drop {a off : Nat} {R : List (List CV)} (h : okW a R) (ho : off ≤ a) : okW (a - off) (R.drop off) := by
  obtain ⟨h1, h2, h3⟩ := h
  refine ⟨by rw [List.length_drop]; omega, by omega, fun i hi => ?_⟩
  rw [rowAt_drop]
  exact h3 (off + i) (by omega)
theorem offI_bd (a : Nat) {i : Int} (hi : 0 ≤ i) : 0 ≤ offI a i ∧ (offI a i).toNat ≤ a := by unfold offI; split <;> omega
section
variable {a : Nat} {R : List (List CV)} (hR : okW a R)
include hR
open Classical in
theorem ck_run {i : Int} (hi : 0 ≤ i ∧ i ≤ 2) (h : Bool) {x : List CV} (hx : rigR isTx x = true) {X : Ans} {r : Option (AV × List PObj)} (hX : X.run pure2 = r) : (ckO CmpF.std a R i h x X).run pure2 = r := by
  cases h with
  | false => exact hX
  | true =>
    have c := rightF_facts hx
    have c2 := rr_bd hx
    obtain ⟨o1, o2⟩ := offI_bd a hi.1
    show (Ans.chk (slO a i) _).run pure2 = r
    rw [chkT (show slO a i = true by unfold slO; rw [decide_eq_true o1, decide_eq_true ⟨o2, Nat.le_refl _⟩]; rfl)]
    have hw : w64 (rk x + i) = rk x + i := w64_of (inI_iff.2 ⟨by omega, by omega⟩)
    rw [chkT (by rw [hw, inI_iff.2 ⟨by omega, by omega⟩, inI_iff.2 ⟨by omega, by omega⟩]; exact decide_eq_true (okW_drop hR o2))]
    exact hX
theorem vv_ok {i : Int} (hi : 0 ≤ i ∧ i ≤ 2) (h : Bool) {x : List CV} (hx : rigR isTx x = true) : (vvO CmpF.std a R i h x).ok := by
  cases h with
  | false => exact hx
  | true =>
    obtain ⟨n1, n2, n3⟩ := nA_bd (rr x) (w64 (rk x + i))
    exact ⟨sz5_bd _, sz5_bd _, n1, n3, by show _ ≤ (arL valR _ _ _).length; rw [arL_len]; exact Nat.le_refl _, fun j hj => by
      show rigR isTx (Sx.rowAt (arL valR _ _ _) j) = true
      rw [arL_at hj]; exact (arJ_ok _ _ _).2⟩
end
theorem cmpG_std (u v : VV) : cmpG CmpF.std u v = u.cmp v := by cases u <;> cases v <;> rfl
theorem VV.right {h w : Int} {n : Nat} {A : List (List CV)} (c : (VV.a h w n A).ok) : rA0' CmpF.std h w n A = true := by
  obtain ⟨h1, h2, hN, h25, hA⟩ := c
  exact grid_ok h1 h2 hN hA.rig
open Classical in
theorem ct_run {u v : VV} (hu : u.ok) (hv : v.ok) {X : Ans} {r : Option (AV × List PObj)} (hX : X.run pure2 = r) : (cmpT CmpF.std u v X).run pure2 = r := by
  have pF : ∀ {x : List CV}, (VV.p x).ok → decide (0 ≤ rk x ∧ rk x ≤ 4) = true ∧ decide ((rs x).length < 1000000) = true ∧ decide ((rs x).length ≤ 1000000) = true ∧ rF9 CmpF.std x = true := fun {x} h => by
    have h : rigR isTx x = true := h
    have c := rightF_facts h
    exact ⟨decide_eq_true c.1, decide_eq_true (by omega), decide_eq_true (by omega), h⟩
  have pA : ∀ {h w : Int} {n : Nat} {A : List (List CV)}, (VV.a h w n A).ok → CmpF.std.rl n A = true ∧ rA0' CmpF.std h w n A = true := fun {h w n A} c => ⟨decide_eq_true c.2.2.2.2, VV.right c⟩
  cases u with
  | p x =>
    obtain ⟨a1, a2, a3, a4⟩ := pF hu
    cases v with
    | p y =>
      obtain ⟨b1, b2, b3, b4⟩ := pF hv
      exact (chkT (by rw [a1, a2, a4, b1, b3, b4]; rfl)).trans hX
    | a h w n A =>
      obtain ⟨b1, b2⟩ := pA hv
      exact (chkT (by rw [a1, a3, a4, b1, b2]; rfl)).trans hX
  | a h w n A =>
    obtain ⟨a1, a2⟩ := pA hu
    cases v with
    | p y =>
      obtain ⟨b1, b2, b3, b4⟩ := pF hv
      exact (chkT (by rw [a1, a2, b1, b3, b4]; rfl)).trans hX
    | a h' w' n' B =>
      obtain ⟨b1, b2⟩ := pA hv
      exact (chkT (by rw [a1, a2, b1, b2]; rfl)).trans hX
open Classical in
theorem cs_run {u : VV} (hu : u.ok) {X : Ans} {r : Option (AV × List PObj)} (hX : X.run pure2 = r) : (cmpS CmpF.std u X).run pure2 = r := by
  cases u with
  | p x => exact ct_run hu hu hX
  | a h w n A => exact (chkT (by rw [sameF_refl, Nat.beq_refl, show CmpF.std.rl n A = true from decide_eq_true hu.2.2.2.2, VV.right hu]; rfl)).trans hX
theorem tailO_run {R : List (List CV)} {ab bc ac : Int} (h1 : -1 ≤ ab ∧ ab ≤ 1) (h2 : ab ≤ 0 → bc ≤ 0 → ac ≤ 0 ∧ (ac = 0 → ab = 0 ∧ bc = 0)) (h3 : ab = 0 → ac = bc) : (tailO R ab bc ac).run pure2 = pure2 (.bool true) [fW R] := by
  have he : (endO R ab bc ac).run pure2 = pure2 (.bool true) [fW R] := by
    unfold endO
    by_cases h : ab = 0
    · rw [brF (by rw [h]; rfl), h3 h]
      show pure2 (.bool (bc == bc)) [fW R] = _
      rw [beq_self_eq_true]
    · rw [brT (bne_iff_ne.2 h)]; rfl
  unfold tailO
  rw [brF (decide_eq_false (by omega)), brF (decide_eq_false (by omega))]
  by_cases c1 : ab ≤ 0
  · rw [brT (decide_eq_true c1)]
    by_cases c2 : bc ≤ 0
    · obtain ⟨c3, c4⟩ := h2 c1 c2
      rw [brT (decide_eq_true c2), brF (decide_eq_false (by omega))]
      by_cases c5 : ac = 0
      · obtain ⟨c6, c7⟩ := c4 c5
        rw [brT (beq_iff_eq.2 c5), brF (decide_eq_false (by omega)), brF (decide_eq_false (by omega))]; exact he
      · rw [brF (beq_eq_false_iff_ne.2 c5)]; exact he
    · rw [brF (decide_eq_false c2)]; exact he
  · rw [brF (decide_eq_false c1)]; exact he
theorem all_true {R : List (List CV)} {u v w : VV} (hu : u.ok) (hv : v.ok) (hw : w.ok) : (allO CmpF.std R u v w).run pure2 = pure2 (.bool true) [fW R] := by
  obtain ⟨l1, l2, l3, l4, l5, l6, l7, l8, l9⟩ := VV.law hu hv hw
  unfold allO
  simp only [cmpG_std]
  refine ct_run hu hv (ct_run hv hw (ct_run hu hw (ct_run hv hu ?_)))
  rw [brF (by rw [w64_of (inI_iff.2 ⟨by omega, by omega⟩), bne, beq_iff_eq.2 (show v.cmp u = 0 - u.cmp v by omega)]; rfl)]
  refine ct_run hw hv ?_
  rw [brF (by rw [w64_of (inI_iff.2 ⟨by omega, by omega⟩), bne, beq_iff_eq.2 (show w.cmp v = 0 - v.cmp w by omega)]; rfl)]
  refine cs_run hu ?_
  rw [brF (by rw [l3]; rfl)]
  exact tailO_run ⟨l4, l5⟩ l8 l9
theorem vo_true {a : Nat} {R : List (List CV)} (hR : okW a R) (h0 h1 h2 : Bool) {x y z : List CV} (hx : rigR isTx x = true) (hy : rigR isTx y = true) (hz : rigR isTx z = true) : (voT CmpF.std a R h0 h1 h2 x y z).run pure2 = pure2 (.bool true) [fW R] := by
  unfold voT
  exact ck_run hR (by decide) h0 hx (ck_run hR (by decide) h1 hy (ck_run hR (by decide) h2 hz (all_true (vv_ok hR (by decide) h0 hx) (vv_ok hR (by decide) h1 hy) (vv_ok hR (by decide) h2 hz))))
theorem tVo_ok (hf : EntOK Tryz.prog 12 (eVal valR)) (ha : EntOK Tryz.prog 11 eTrue) : TabOK Tryz.prog (tVo valR CmpF.std) :=
  .cons ha (.cons (eVaK_ok hf) (.cons eCp_ok (.cons (eArK_ok hf) .nil)))
theorem vl_run {k m e : Int} {s : List UInt8} (hk : inI k = true) (hm : inI m = true) (he : inI e = true) (hs : s.length ≤ 9223372036854775807) {X : Ans} {r : Option (AV × List PObj)} (hX : X.run pure2 = r) : (vlC k m e s X).run pure2 = r := by
  unfold vlC
  rw [chkT (by rw [hk, hm, he, decide_eq_true hs]; rfl)]; exact hX
/-- Raw numbers that a program can hold. -/
def okRw (k m e : Int) (s : List UInt8) : Prop := inI k = true ∧ inI m = true ∧ inI e = true ∧ s.length ≤ 9223372036854775807
theorem vo_meets {k m e : Int} {s : List UInt8} {b : Bool} {k' m' e' : Int} {s' : List UInt8} {b' : Bool} {k2 m2 e2 : Int} {s2 : List UInt8} {b2 : Bool} {a : Nat} {R : List (List CV)} {h0 h1 h2 : Bool} (o1 : okRw k m e s) (o2 : okRw k' m' e' s') (o3 : okRw k2 m2 e2 s2) (hR : okW a R) (hf : EntOK Tryz.prog 12 (eVal valR)) (ha : EntOK Tryz.prog 11 eTrue) :
    Meets Tryz.prog 6 [rawA k m e s b, rawA k' m' e' s' b', rawA k2 m2 e2 s2 b2, .dsl 0 a, .agg [.bool h0, .bool h1, .bool h2]] [.flatR false shW R] (.bool true) [.flatR false shW R] := by
  have fin : ∀ {a : Nat} (hR : okW a R), (vlC k m e s (vlC k' m' e' s' (vlC k2 m2 e2 s2 (voT CmpF.std a R h0 h1 h2 (valR k m e s b) (valR k' m' e' s' b') (valR k2 m2 e2 s2 b2))))).run pure2 = pure2 (.bool true) [fW R] := fun hR =>
    vl_run o1.1 o1.2.1 o1.2.2.1 o1.2.2.2 (vl_run o2.1 o2.2.1 o2.2.2.1 o2.2.2.2 (vl_run o3.1 o3.2.1 o3.2.2.1 o3.2.2.2 (vo_true hR h0 h1 h2 (valR_ok k m e s b).2 (valR_ok k' m' e' s' b').2 (valR_ok k2 m2 e2 s2 b2).2)))
  match a, hR with
  | 0, hR => exact meets_ent (pre := [fW R]) (post := [fW R]) (tVo_ok hf ha) host ((vo_comes0 valR CmpF.std k m e s b k' m' e' s' b' k2 m2 e2 s2 b2 R h0 h1 h2).trans (fin hR)) nolv_ok
  | 1, hR => exact meets_ent (pre := [fW R]) (post := [fW R]) (tVo_ok hf ha) host ((vo_comes1 valR CmpF.std k m e s b k' m' e' s' b' k2 m2 e2 s2 b2 R h0 h1 h2).trans (fin hR)) nolv_ok
  | n + 2, hR => exact meets_ent (pre := [fW R]) (post := [fW R]) (tVo_ok hf ha) host ((vo_comes2 valR CmpF.std k m e s b k' m' e' s' b' k2 m2 e2 s2 b2 n R h0 h1 h2).trans (fin hR)) nolv_ok
end Go.Proofs.YtdomenmfkbfakaaGreatDoor
