import Derived.Test.YtphhepnldndbhaaGreatDoorGr06
set_option linter.unusedVariables false
set_option linter.unusedSimpArgs false
set_option linter.unusedSectionVars false
namespace Go.Proofs.YtphhepnldndbhaaGreatDoor
open Go Sx
def anyN (f : Nat → Bool) : Nat → Bool
  | 0 => false
  | n + 1 => anyN f n || f n
theorem anyN_none {f : Nat → Bool} : ∀ {n : Nat}, anyN f n = false → ∀ j, j < n → f j = false
  | 0, _, j, hj => absurd hj (Nat.not_lt_zero j)
  | n + 1, h, j, hj => by
    simp only [anyN, Bool.or_eq_false_iff] at h
    by_cases e : j = n
    · rw [e]; exact h.2
    · exact anyN_none h.1 j (by omega)
theorem anyN_first {f : Nat → Bool} : ∀ {n : Nat}, anyN f n = true → ∃ j, j < n ∧ f j = true ∧ ∀ i, i < j → f i = false
  | 0, h => by cases h
  | n + 1, h => by
    by_cases e : anyN f n = true
    · obtain ⟨j, h1, h2, h3⟩ := anyN_first e
      exact ⟨j, by omega, h2, h3⟩
    · have e := Bool.eq_false_iff.2 e
      simp only [anyN, e, Bool.false_or] at h
      exact ⟨n, by omega, h, fun i hi => anyN_none e i hi⟩
theorem tri_any {x : Code} {K W : Nat} (hit : Nat → Bool) (S : Nat → AState) {exF exE : Ex} {F E : AState} (hF : exF ≠ .normal) (hE : exE ≠ .normal)
    (next : ∀ j, j < W → hit j = false → Tri Tryz.prog x (S j) .normal (S (j + 1)) K) (hits : ∀ j, j < W → hit j = true → Tri Tryz.prog x (S j) exF F K) (last : Tri Tryz.prog x (S W) exE E K) :
    (anyN hit W = true → Tri Tryz.prog (.loop x) (S 0) exF F K) ∧ (anyN hit W = false → Tri Tryz.prog (.loop x) (S 0) exE E K) := by
  refine ⟨fun h => ?_, fun h => ?_⟩
  · obtain ⟨j, hj, h1, h2⟩ := anyN_first h
    exact tri_up S hF j (fun k hk => next k (by omega) (h2 k hk)) (hits j hj h1) 0 (Nat.zero_le _)
  · have h' := anyN_none h
    exact tri_up S hE W (fun k hk => next k hk (h' k hk)) last 0 (Nat.zero_le _)
theorem qzx {T : Tab} (hT : TabOK Tryz.prog T) {K : Nat} {x : Code} {S S' : qzw} {kn kx : Nat → Bool} {ex : Ex} (h : code (ent Tryz.prog T nolv 64 1 20) Tryz.prog {} K 64 1 x S (endK K 64 kn kx) = some (ex, S')) : Tri Tryz.prog x S.toA ex S'.toA K :=
  qyy (qzv hT host qyz (NF := 64) (m := 1) 20) qyt h
theorem lvI_ok {K : Nat} {S : qzw} {x : LAns} (h : LAnsOK Tryz.prog loopN2 K S x) : LvOK Tryz.prog (lvI K S x) := lvOf_ok Tryz.func47 fun y hy id en hid he => by
  obtain ⟨rfl, rfl⟩ := oneL_some he
  have e2 : qyu (bodyOf Tryz.f47) = [loopN1, loopN2] := by kernel_rfl
  rw [e2] at hy
  rcases List.mem_cons.1 hy with rfl | hy
  · have h9 : (headReg loopN1 == some 4) = false := by kernel_rfl
    exact absurd hid (fun e => by rw [e] at h9; exact absurd h9 (by decide))
  · obtain rfl := List.mem_singleton.1 hy
    exact fun K' t => eAt_ok h K' t
theorem loopsI {lv : FuncId → Lv} (hL : LvOK Tryz.prog lv) {K : Nat} : LoopsOK Tryz.prog (lv 47) K loopN1 := fun x hx id e hid he t => by
  have e1 : qyu loopN1 = [loopN2] := by kernel_rfl
  have e2 : qyu (bodyOf Tryz.f47) = [loopN1, loopN2] := by kernel_rfl
  rw [e1] at hx
  exact hL 47 Tryz.f47 (bodyOf Tryz.f47) Tryz.func47 (by kernel_rfl) K x (by rw [e2]; exact List.mem_cons_of_mem _ hx) id e hid he t
theorem i_sound {K : Nat} {S0 : qzw} {x : LAns} (hx : LAnsOK Tryz.prog loopN2 K S0 x) {S S' : qzw} {kn kx : Nat → Bool} {ex : Ex} (h : code (ent Tryz.prog [] (lvI K S0 x) 64 1 20) Tryz.prog (lvI K S0 x 47) K 64 1 loopN1 S (endK K 64 kn kx) = some (ex, S')) : Tri Tryz.prog loopN1 S.toA ex S'.toA K :=
  qyy (qzv .nil host (lvI_ok hx) (NF := 64) (m := 1) 20) (loopsI (lvI_ok hx)) h
section
variable (ks : List (List Int)) (A : List (List CV)) (s r c : Int) (H W : Nat) (s' r' c' h' w' : Int)
def hitI (i j : Nat) : Bool := memK ks (keyI s r c (i : Int) (j : Int)) && !ownB s r c (i : Int) (j : Int) s' r' c'
def hitR (i : Nat) : Bool := anyN (hitI ks s r c s' r' c' i) W
def hitA : Bool := anyN (hitR ks s r c W s' r' c') H
theorem inner_n (hW : W ≤ 1000) (i : Nat) :
    (hitR ks s r c W s' r' c' i = true → Tri Tryz.prog (.loop loopN2) (sNi (m1n ks s r c (H : Int) (W : Int) s' r' c' h' w' .ready) (H : Int) (W : Int) (i : Int) 0).toA .ret (sN (m1v ks [mkA s' r' c'] 1 s r c (H : Int) (W : Int) s' r' c' h' w' stE) (H : Int) (i : Int)).toA 6) ∧
    (hitR ks s r c W s' r' c' i = false → Tri Tryz.prog (.loop loopN2) (sNi (m1n ks s r c (H : Int) (W : Int) s' r' c' h' w' .ready) (H : Int) (W : Int) (i : Int) 0).toA (.exit 2) (sN (m1n ks s r c (H : Int) (W : Int) s' r' c' h' w' .ready) (H : Int) (i : Int)).toA 6) := by
  refine tri_any (W := W) (hitI ks s r c s' r' c' i) (fun j => (sNi (m1n ks s r c (H : Int) (W : Int) s' r' c' h' w' .ready) (H : Int) (W : Int) (i : Int) (j : Int)).toA) (fun e => by cases e) (fun e => by cases e) (fun j hj hh => ?_) (fun j hj hh => ?_) ?_
  · refine qzx (T := []) .nil ((n2n ks s r c (H : Int) (W : Int) (i : Int) (j : Int) s' r' c' h' w').trans ?_)
    rw [bcT (decide_eq_true (by omega)), up1_nat (by omega)]
    unfold hitI at hh
    cases hm : memK ks (keyI s r c (i : Int) (j : Int)) with
    | false => rfl
    | true =>
      rw [hm, Bool.true_and] at hh
      rw [hh]; rfl
  · refine qzx (T := []) .nil ((n2n ks s r c (H : Int) (W : Int) (i : Int) (j : Int) s' r' c' h' w').trans ?_)
    unfold hitI at hh
    rw [Bool.and_eq_true] at hh
    rw [bcT (decide_eq_true (by omega)), bcT hh.1, bcT hh.2]
  · refine qzx (T := []) .nil ((n2n ks s r c (H : Int) (W : Int) (i : Int) (W : Int) s' r' c' h' w').trans ?_)
    rw [bcF (decide_eq_false (by omega))]
theorem inner_v (hA : A.length ≤ 1000) (hW : W ≤ 1000) (i : Nat) :
    (hitR ks s r c W s' r' c' i = true → Tri Tryz.prog (.loop loopN2) (sNi (m1v ks A A.length s r c (H : Int) (W : Int) s' r' c' h' w' .ready) (H : Int) (W : Int) (i : Int) 0).toA .ret (sN (m1w ks (A ++ [mkA s' r' c']) (A.length + 1) s r c (H : Int) (W : Int) s' r' c' h' w' stE) (H : Int) (i : Int)).toA 7) ∧
    (hitR ks s r c W s' r' c' i = false → Tri Tryz.prog (.loop loopN2) (sNi (m1v ks A A.length s r c (H : Int) (W : Int) s' r' c' h' w' .ready) (H : Int) (W : Int) (i : Int) 0).toA (.exit 2) (sN (m1v ks A A.length s r c (H : Int) (W : Int) s' r' c' h' w' .ready) (H : Int) (i : Int)).toA 7) := by
  refine tri_any (W := W) (hitI ks s r c s' r' c' i) (fun j => (sNi (m1v ks A A.length s r c (H : Int) (W : Int) s' r' c' h' w' .ready) (H : Int) (W : Int) (i : Int) (j : Int)).toA) (fun e => by cases e) (fun e => by cases e) (fun j hj hh => ?_) (fun j hj hh => ?_) ?_
  · refine qzx (T := []) .nil ((n2v ks A A.length s r c (H : Int) (W : Int) (i : Int) (j : Int) s' r' c' h' w').trans ?_)
    rw [bcT (decide_eq_true (by omega)), up1_nat (by omega)]
    unfold hitI at hh
    cases hm : memK ks (keyI s r c (i : Int) (j : Int)) with
    | false => rfl
    | true =>
      rw [hm, Bool.true_and] at hh
      rw [hh]; rfl
  · refine qzx (T := []) .nil ((n2v ks A A.length s r c (H : Int) (W : Int) (i : Int) (j : Int) s' r' c' h' w').trans ?_)
    unfold hitI at hh
    rw [Bool.and_eq_true] at hh
    rw [bcT (decide_eq_true (by omega)), bcT hh.1, bcT hh.2, qzy (all1 (by rw [decide_eq_true (show (vA A).len = A.length * 3 from rfl)]; unfold roomB; exact decide_eq_true ⟨by omega, by omega⟩))]
  · refine qzx (T := []) .nil ((n2v ks A A.length s r c (H : Int) (W : Int) (i : Int) (W : Int) s' r' c' h' w').trans ?_)
    rw [bcF (decide_eq_false (by omega))]
def addR (i : Nat) : List (List Int) → Nat → List (List Int)
  | ks, 0 => ks
  | ks, j + 1 => addK (addR i ks j) (keyI s r c (i : Int) (j : Int))
def addA (W : Nat) : List (List Int) → Nat → List (List Int)
  | ks, 0 => ks
  | ks, i + 1 => addR s r c i (addA W ks i) W
theorem inner_m (hW : W ≤ 1000) (i : Nat) : Tri Tryz.prog (.loop loopN2) (sNi (m2 ks s r c (H : Int) (W : Int) .ready) (H : Int) (W : Int) (i : Int) 0).toA (.exit 2) (sN (m2 (addR s r c i ks W) s r c (H : Int) (W : Int) .ready) (H : Int) (i : Int)).toA 4 := by
  refine tri_up (body := loopN2) (fun j => (sNi (m2 (addR s r c i ks j) s r c (H : Int) (W : Int) .ready) (H : Int) (W : Int) (i : Int) (j : Int)).toA) (fun e => by cases e) W (fun j hj => ?_) ?_ 0 (Nat.zero_le _)
  · refine qzx (T := []) .nil ((n2m _ s r c (H : Int) (W : Int) (i : Int) (j : Int)).trans ?_)
    rw [bcT (decide_eq_true (by omega)), up1_nat (by omega)]; rfl
  · refine qzx (T := []) .nil ((n2m _ s r c (H : Int) (W : Int) (i : Int) (W : Int)).trans ?_)
    rw [bcF (decide_eq_false (by omega))]
theorem outer_n (hH : H ≤ 1000) (hW : W ≤ 1000) :
    (hitA ks s r c H W s' r' c' = true → Tri Tryz.prog (.loop loopN1) (sN (m1n ks s r c (H : Int) (W : Int) s' r' c' h' w' .ready) (H : Int) 0).toA .ret (sNX (m1v ks [mkA s' r' c'] 1 s r c (H : Int) (W : Int) s' r' c' h' w' stE)).toA 6) ∧
    (hitA ks s r c H W s' r' c' = false → Tri Tryz.prog (.loop loopN1) (sN (m1n ks s r c (H : Int) (W : Int) s' r' c' h' w' .ready) (H : Int) 0).toA (.exit 0) (sNX (m1n ks s r c (H : Int) (W : Int) s' r' c' h' w' .ready)).toA 6) := by
  have hx : ∀ i : Nat, LAnsOK Tryz.prog loopN2 6 (sNi (m1n ks s r c (H : Int) (W : Int) s' r' c' h' w' .ready) (H : Int) (W : Int) (i : Int) 0) (outI true (hitR ks s r c W s' r' c' i) (sN (m1v ks [mkA s' r' c'] 1 s r c (H : Int) (W : Int) s' r' c' h' w' stE) (H : Int) (i : Int)) (sN (m1n ks s r c (H : Int) (W : Int) s' r' c' h' w' .ready) (H : Int) (i : Int))) := fun i =>
    ⟨fun _ => ⟨fun h => (inner_n ks s r c H W s' r' c' h' w' hW i).1 h, fun h => (inner_n ks s r c H W s' r' c' h' w' hW i).2 h⟩, fun _ => trivial⟩
  have ck : ∀ i : Nat, ∀ b ∈ [eqSt (sNi (m1n ks s r c (H : Int) (W : Int) s' r' c' h' w' .ready) (H : Int) (W : Int) (i : Int) 0) (sNi (m1n ks s r c (H : Int) (W : Int) s' r' c' h' w' .ready) (H : Int) (W : Int) (i : Int) 0), true], b = true := fun i => all2 (qzt _) rfl
  refine tri_any (W := H) (hitR ks s r c W s' r' c') (fun i => (sN (m1n ks s r c (H : Int) (W : Int) s' r' c' h' w' .ready) (H : Int) (i : Int)).toA) (fun e => by cases e) (fun e => by cases e) (fun i hi hh => ?_) (fun i hi hh => ?_) ?_
  · refine i_sound (hx i) ((n1n ks [mkA s' r' c'] s r c (H : Int) (W : Int) (i : Int) s' r' c' h' w' true (hitR ks s r c W s' r' c' i)).trans ?_)
    rw [bcT (decide_eq_true (by omega)), qzy (ck i), bcF hh, up1_nat (by omega)]
  · refine i_sound (hx i) ((n1n ks [mkA s' r' c'] s r c (H : Int) (W : Int) (i : Int) s' r' c' h' w' true (hitR ks s r c W s' r' c' i)).trans ?_)
    rw [bcT (decide_eq_true (by omega)), qzy (ck i), bcT hh]
  · refine i_sound (hx H) ((n1n ks [mkA s' r' c'] s r c (H : Int) (W : Int) (H : Int) s' r' c' h' w' true (hitR ks s r c W s' r' c' H)).trans ?_)
    rw [bcF (decide_eq_false (by omega))]
theorem outer_v (hA : A.length ≤ 1000) (hH : H ≤ 1000) (hW : W ≤ 1000) :
    (hitA ks s r c H W s' r' c' = true → Tri Tryz.prog (.loop loopN1) (sN (m1v ks A A.length s r c (H : Int) (W : Int) s' r' c' h' w' .ready) (H : Int) 0).toA .ret (sNX (m1w ks (A ++ [mkA s' r' c']) (A.length + 1) s r c (H : Int) (W : Int) s' r' c' h' w' stE)).toA 7) ∧
    (hitA ks s r c H W s' r' c' = false → Tri Tryz.prog (.loop loopN1) (sN (m1v ks A A.length s r c (H : Int) (W : Int) s' r' c' h' w' .ready) (H : Int) 0).toA (.exit 0) (sNX (m1v ks A A.length s r c (H : Int) (W : Int) s' r' c' h' w' .ready)).toA 7) := by
  have hx : ∀ i : Nat, LAnsOK Tryz.prog loopN2 7 (sNi (m1v ks A A.length s r c (H : Int) (W : Int) s' r' c' h' w' .ready) (H : Int) (W : Int) (i : Int) 0) (outI true (hitR ks s r c W s' r' c' i) (sN (m1w ks (A ++ [mkA s' r' c']) (A.length + 1) s r c (H : Int) (W : Int) s' r' c' h' w' stE) (H : Int) (i : Int)) (sN (m1v ks A A.length s r c (H : Int) (W : Int) s' r' c' h' w' .ready) (H : Int) (i : Int))) := fun i =>
    ⟨fun _ => ⟨fun h => (inner_v ks A s r c H W s' r' c' h' w' hA hW i).1 h, fun h => (inner_v ks A s r c H W s' r' c' h' w' hA hW i).2 h⟩, fun _ => trivial⟩
  have ck : ∀ i : Nat, ∀ b ∈ [eqSt (sNi (m1v ks A A.length s r c (H : Int) (W : Int) s' r' c' h' w' .ready) (H : Int) (W : Int) (i : Int) 0) (sNi (m1v ks A A.length s r c (H : Int) (W : Int) s' r' c' h' w' .ready) (H : Int) (W : Int) (i : Int) 0), true], b = true := fun i => all2 (qzt _) rfl
  refine tri_any (W := H) (hitR ks s r c W s' r' c') (fun i => (sN (m1v ks A A.length s r c (H : Int) (W : Int) s' r' c' h' w' .ready) (H : Int) (i : Int)).toA) (fun e => by cases e) (fun e => by cases e) (fun i hi hh => ?_) (fun i hi hh => ?_) ?_
  · refine i_sound (hx i) ((n1v ks A (A ++ [mkA s' r' c']) A.length (A.length + 1) s r c (H : Int) (W : Int) (i : Int) s' r' c' h' w' true (hitR ks s r c W s' r' c' i)).trans ?_)
    rw [bcT (decide_eq_true (by omega)), qzy (ck i), bcF hh, up1_nat (by omega)]
  · refine i_sound (hx i) ((n1v ks A (A ++ [mkA s' r' c']) A.length (A.length + 1) s r c (H : Int) (W : Int) (i : Int) s' r' c' h' w' true (hitR ks s r c W s' r' c' i)).trans ?_)
    rw [bcT (decide_eq_true (by omega)), qzy (ck i), bcT hh]
  · refine i_sound (hx H) ((n1v ks A (A ++ [mkA s' r' c']) A.length (A.length + 1) s r c (H : Int) (W : Int) (H : Int) s' r' c' h' w' true (hitR ks s r c W s' r' c' H)).trans ?_)
    rw [bcF (decide_eq_false (by omega))]
theorem outer_m (hH : H ≤ 1000) (hW : W ≤ 1000) : Tri Tryz.prog (.loop loopN1) (sN (m2 ks s r c (H : Int) (W : Int) .ready) (H : Int) 0).toA (.exit 0) (sNX (m2 (addA s r c W ks H) s r c (H : Int) (W : Int) .ready)).toA 4 := by
  refine tri_up (body := loopN1) (fun i => (sN (m2 (addA s r c W ks i) s r c (H : Int) (W : Int) .ready) (H : Int) (i : Int)).toA) (fun e => by cases e) H (fun i hi => ?_) ?_ 0 (Nat.zero_le _)
  · refine i_sound (x := .chk true (.out (.exit 2) (sN (m2 (addR s r c i (addA s r c W ks i) W) s r c (H : Int) (W : Int) .ready) (H : Int) (i : Int)))) ⟨fun _ => inner_m (addA s r c W ks i) s r c H W hW i, fun _ => trivial⟩ ((n1m (addA s r c W ks i) (addR s r c i (addA s r c W ks i) W) s r c (H : Int) (W : Int) (i : Int) true).trans ?_)
    rw [bcT (decide_eq_true (by omega)), qzy (all2 (qzt _) rfl), up1_nat (by omega)]; rfl
  · refine i_sound (x := .chk true (.out (.exit 2) (sN (m2 (addR s r c H (addA s r c W ks H) W) s r c (H : Int) (W : Int) .ready) (H : Int) (H : Int)))) ⟨fun _ => inner_m (addA s r c W ks H) s r c H W hW H, fun _ => trivial⟩ ((n1m (addA s r c W ks H) (addR s r c H (addA s r c W ks H) W) s r c (H : Int) (W : Int) (H : Int) true).trans ?_)
    rw [bcF (decide_eq_false (by omega))]
end
end Go.Proofs.YtphhepnldndbhaaGreatDoor
namespace Go.Proofs.YtphhepnldndbhaaGreatDoor
open Go Sx
abbrev aYf : List AV := [.func yF [.ptr 0 0] [], .ptr 1 0]
noncomputable def lvO1 (K : Nat) (S : qzw) (x : LAns) : FuncId → Lv := lvOf 47 (fun i => if i = 1 then some [0, 1, 6, 7] else some [0, 1, 6, 7, 3, 11, 12]) (oneL 1 (eAt K S x))
theorem lvO1_ok {K : Nat} {S : qzw} {x : LAns} (h : LAnsOK Tryz.prog loopN1 K S x) : LvOK Tryz.prog (lvO1 K S x) := lvOf_ok Tryz.func47 fun y hy id en hid he => by
  obtain ⟨rfl, rfl⟩ := oneL_some he
  have e2 : qyu (bodyOf Tryz.f47) = [loopN1, loopN2] := by kernel_rfl
  rw [e2] at hy
  rcases List.mem_cons.1 hy with rfl | hy
  · exact fun K' t => eAt_ok h K' t
  · obtain rfl := List.mem_singleton.1 hy
    have h9 : (headReg loopN2 == some 1) = false := by kernel_rfl
    exact absurd hid (fun e => by rw [e] at h9; exact absurd h9 (by decide))
def outO (c b : Bool) (F E : qzw) : LAns := .chk c (.br b (.out .ret F) (.out (.exit 0) E))
section
variable (ks ks' : List (List Int)) (A A' : List (List CV)) (k k' : Nat) (s r c h w s' r' c' h' w' : Int) (ok b : Bool)
noncomputable def q1n (st : LSt) : List PObj := [oL1 st, oA5 s r c h w, oP1 (.mapp 5) 71, oP1 .qzz 22, oS5 s' r' c' h' w', oM ks]
noncomputable def q1v (st : LSt) : List PObj := [oL1 st, oA5 s r c h w, oP1 (.mapp 5) 71, oP1 (.vec 6 k) 22, oS5 s' r' c' h' w', oM ks, vA A]
noncomputable def q1w (st : LSt) : List PObj := [oL1 st, oA5 s r c h w, oP1 (.mapp 5) 71, oP1 (.vec 7 k) 22, oS5 s' r' c' h' w', oM ks, .raw .dead, vA A]
noncomputable def q2 (st : LSt) : List PObj := [oL2 st, oA5 s r c h w, oP1 (.mapp 3) 71, oM ks]
theorem in_n : Comes [] (lvO1 6 (sN (m1n ks s r c h w s' r' c' h' w' .ready) h 0) (outO ok b (sNX (m1v ks A k s r c h w s' r' c' h' w' stE)) (sNX (m1n ks s r c h w s' r' c' h' w' .ready)))) 47 aYf (q1n ks s r c h w s' r' c' h' w' .ready)
  (.chk (eqSt (sN (m1n ks s r c h w s' r' c' h' w' .ready) h 0) (sN (m1n ks s r c h w s' r' c' h' w' .ready) h 0)) (.chk ok (.br b (.ret (.tuple []) (q1v ks A k s r c h w s' r' c' h' w' stE)) (.ret (.tuple []) (q1n ks s r c h w s' r' c' h' w' .ready))))) := by unfold Comes; kernel_rfl
theorem in_v : Comes [] (lvO1 7 (sN (m1v ks A k s r c h w s' r' c' h' w' .ready) h 0) (outO ok b (sNX (m1w ks A' k' s r c h w s' r' c' h' w' stE)) (sNX (m1v ks A k s r c h w s' r' c' h' w' .ready)))) 47 aYf (q1v ks A k s r c h w s' r' c' h' w' .ready)
  (.chk (eqSt (sN (m1v ks A k s r c h w s' r' c' h' w' .ready) h 0) (sN (m1v ks A k s r c h w s' r' c' h' w' .ready) h 0)) (.chk ok (.br b (.ret (.tuple []) (q1w ks A' k' s r c h w s' r' c' h' w' stE)) (.ret (.tuple []) (q1v ks A k s r c h w s' r' c' h' w' .ready))))) := by unfold Comes; kernel_rfl
theorem in_m : Comes [] (lvO1 4 (sN (m2 ks s r c h w .ready) h 0) (.chk ok (.out (.exit 0) (sNX (m2 ks' s r c h w .ready))))) 47 aYf (q2 ks s r c h w .ready)
  (.chk (eqSt (sN (m2 ks s r c h w .ready) h 0) (sN (m2 ks s r c h w .ready) h 0)) (.chk ok (.ret (.tuple []) (q2 ks' s r c h w .ready)))) := by unfold Comes; kernel_rfl
end
open Classical in
noncomputable def eIn (ks : List (List Int)) (A : List (List CV)) (s r c h w s' r' c' h' w' : Int) : Ent := fun args pre => match pre with
  | [_, _, _, _] => .chk (decide ((args = aYf ∧ pre = q2 ks s r c h w .ready) ∧ (0 ≤ h ∧ h ≤ 1000) ∧ 0 ≤ w ∧ w ≤ 1000)) (.ret (.tuple []) (q2 (addA s r c w.toNat ks h.toNat) s r c h w .ready))
  | [_, _, _, _, _, _] => .chk (decide ((args = aYf ∧ pre = q1n ks s r c h w s' r' c' h' w' .ready) ∧ (0 ≤ h ∧ h ≤ 1000) ∧ 0 ≤ w ∧ w ≤ 1000)) (.br (hitA ks s r c h.toNat w.toNat s' r' c') (.ret (.tuple []) (q1v ks [mkA s' r' c'] 1 s r c h w s' r' c' h' w' stE)) (.ret (.tuple []) (q1n ks s r c h w s' r' c' h' w' .ready)))
  | [_, _, _, _, _, _, _] => .chk (decide ((args = aYf ∧ pre = q1v ks A A.length s r c h w s' r' c' h' w' .ready) ∧ (0 ≤ h ∧ h ≤ 1000) ∧ (0 ≤ w ∧ w ≤ 1000) ∧ A.length ≤ 1000)) (.br (hitA ks s r c h.toNat w.toNat s' r' c') (.ret (.tuple []) (q1w ks (A ++ [mkA s' r' c']) (A.length + 1) s r c h w s' r' c' h' w' stE)) (.ret (.tuple []) (q1v ks A A.length s r c h w s' r' c' h' w' .ready)))
  | _ => .fail
theorem nat_of {h : Int} (h0 : 0 ≤ h) (h1 : h ≤ 1000) : ∃ H : Nat, h = (H : Int) ∧ h.toNat = H ∧ H ≤ 1000 := ⟨h.toNat, by omega, rfl, by omega⟩
open Classical in
theorem eIn_ok (ks : List (List Int)) (A : List (List CV)) (s r c h w s' r' c' h' w' : Int) : EntOK Tryz.prog 47 (eIn ks A s r c h w s' r' c' h' w') := fun args pre => by
  unfold eIn
  split
  · refine ⟨fun g => ?_, fun _ => trivial⟩
    obtain ⟨⟨rfl, e⟩, ⟨h0, h1⟩, w0, w1⟩ := of_decide_eq_true g
    obtain ⟨H, rfl, eH, hH⟩ := nat_of h0 h1
    obtain ⟨W, rfl, eW, hW⟩ := nat_of w0 w1
    rw [e, eH, eW]
    refine qyx (pre := q2 ks s r c H W .ready) (post := q2 (addA s r c W ks H) s r c H W .ready) .nil host ((in_m ks (addA s r c W ks H) s r c H W true).trans ?_) (lvO1_ok ⟨fun _ => outer_m ks s r c H W hH hW, fun _ => trivial⟩)
    rw [chkT (qzt _), chkT rfl]; rfl
  · refine ⟨fun g => ?_, fun _ => trivial⟩
    obtain ⟨⟨rfl, e⟩, ⟨h0, h1⟩, w0, w1⟩ := of_decide_eq_true g
    obtain ⟨H, rfl, eH, hH⟩ := nat_of h0 h1
    obtain ⟨W, rfl, eW, hW⟩ := nat_of w0 w1
    rw [e, eH, eW]
    have key := outer_n ks s r c H W s' r' c' h' w' hH hW
    refine ⟨fun hb => ?_, fun hb => ?_⟩
    · refine qyx (pre := q1n ks s r c H W s' r' c' h' w' .ready) (post := q1v ks [mkA s' r' c'] 1 s r c H W s' r' c' h' w' stE) .nil host ((in_n ks [mkA s' r' c'] 1 s r c H W s' r' c' h' w' true true).trans ?_) (lvO1_ok ⟨fun _ => ⟨fun _ => key.1 hb, fun e => by cases e⟩, fun _ => trivial⟩)
      rw [chkT (qzt _), chkT rfl, brT rfl]; rfl
    · refine qyx (pre := q1n ks s r c H W s' r' c' h' w' .ready) (post := q1n ks s r c H W s' r' c' h' w' .ready) .nil host ((in_n ks [mkA s' r' c'] 1 s r c H W s' r' c' h' w' true false).trans ?_) (lvO1_ok ⟨fun _ => ⟨(fun e => by cases e), fun _ => key.2 hb⟩, fun _ => trivial⟩)
      rw [chkT (qzt _), chkT rfl, brF rfl]; rfl
  · refine ⟨fun g => ?_, fun _ => trivial⟩
    obtain ⟨⟨rfl, e⟩, ⟨h0, h1⟩, ⟨w0, w1⟩, hA⟩ := of_decide_eq_true g
    obtain ⟨H, rfl, eH, hH⟩ := nat_of h0 h1
    obtain ⟨W, rfl, eW, hW⟩ := nat_of w0 w1
    rw [e, eH, eW]
    have key := outer_v ks A s r c H W s' r' c' h' w' hA hH hW
    refine ⟨fun hb => ?_, fun hb => ?_⟩
    · refine qyx (pre := q1v ks A A.length s r c H W s' r' c' h' w' .ready) (post := q1w ks (A ++ [mkA s' r' c']) (A.length + 1) s r c H W s' r' c' h' w' stE) .nil host ((in_v ks A (A ++ [mkA s' r' c']) A.length (A.length + 1) s r c H W s' r' c' h' w' true true).trans ?_) (lvO1_ok ⟨fun _ => ⟨fun _ => key.1 hb, fun e => by cases e⟩, fun _ => trivial⟩)
      rw [chkT (qzt _), chkT rfl, brT rfl]; rfl
    · refine qyx (pre := q1v ks A A.length s r c H W s' r' c' h' w' .ready) (post := q1v ks A A.length s r c H W s' r' c' h' w' .ready) .nil host ((in_v ks A (A ++ [mkA s' r' c']) A.length (A.length + 1) s r c H W s' r' c' h' w' true false).trans ?_) (lvO1_ok ⟨fun _ => ⟨(fun e => by cases e), fun _ => key.2 hb⟩, fun _ => trivial⟩)
      rw [chkT (qzt _), chkT rfl, brF rfl]; rfl
  · trivial
end Go.Proofs.YtphhepnldndbhaaGreatDoor
namespace Go.Proofs.YtphhepnldndbhaaGreatDoor
open Go Sx
noncomputable abbrev loopQ : Code := ((qyu (bodyOf Tryz.f14)).drop 1).headD .skip
abbrev kM : Nat → Bool := fun n => hasN [9, 12, 13, 41, 42, 43] n
abbrev kMX : Nat → Bool := fun n => hasN [12, 13] n
def sMX (pre : List (Option PObj)) (pl : AV) (kb : Nat) (t : List (Option PObj)) : qzw := ⟨nn 12 ++ (some pl :: some (.ptr kb 0) :: nn 72), pre ++ (t ++ nn 64)⟩
noncomputable def tPl (ks : List (List Int)) (B : List (List CV)) (x : List CV) : Tab := [(29, eRar), (47, eIn ks B (c0 x) (c1 x) (c2 x) (c3 x) (c4 x) (c0 x) (c1 x) (c2 x) (c3 x) (c4 x))]
theorem tPl_ok (ks : List (List Int)) (B : List (List CV)) (x : List CV) : TabOK Tryz.prog (tPl ks B x) := .cons eRar_ok (.cons (eIn_ok ks B (c0 x) (c1 x) (c2 x) (c3 x) (c4 x) (c0 x) (c1 x) (c2 x) (c3 x) (c4 x)) .nil)
section
variable (X Y L P B : List (List CV)) (ks : List (List Int)) (p q m a : Nat) (i : Int)
abbrev rwL : List CV := Sx.rowAt L i.toNat
abbrev arL : Bool := areaB (c0 (rwL L i)) (c1 (rwL L i)) (c2 (rwL L i)) (c3 (rwL L i)) (c4 (rwL L i))
abbrev spL1 : List CV := mkS (c0 (rwL L i)) (c1 (rwL L i)) (c2 (rwL L i)) (c3 (rwL L i)) (c4 (rwL L i))
abbrev atL1 : List CV := mkA (c0 (rwL L i)) (c1 (rwL L i)) (c2 (rwL L i))
def hitL : Bool := hitA ks (c0 (rwL L i)) (c1 (rwL L i)) (c2 (rwL L i)) (c3 (rwL L i)).toNat (c4 (rwL L i)).toNat (c0 (rwL L i)) (c1 (rwL L i)) (c2 (rwL L i))
def addL : List (List Int) := addA (c0 (rwL L i)) (c1 (rwL L i)) (c2 (rwL L i)) (c4 (rwL L i)).toNat ks (c3 (rwL L i)).toNat
open Classical in
noncomputable def ckIn : Bool := decide ((aYf = aYf ∧ q1n ks (c0 (rwL L i)) (c1 (rwL L i)) (c2 (rwL L i)) (c3 (rwL L i)) (c4 (rwL L i)) (c0 (rwL L i)) (c1 (rwL L i)) (c2 (rwL L i)) (c3 (rwL L i)) (c4 (rwL L i)) .ready = q1n ks (c0 (rwL L i)) (c1 (rwL L i)) (c2 (rwL L i)) (c3 (rwL L i)) (c4 (rwL L i)) (c0 (rwL L i)) (c1 (rwL L i)) (c2 (rwL L i)) (c3 (rwL L i)) (c4 (rwL L i)) .ready) ∧ (0 ≤ c3 (rwL L i) ∧ c3 (rwL L i) ≤ 1000) ∧ 0 ≤ c4 (rwL L i) ∧ c4 (rwL L i) ≤ 1000)
open Classical in
noncomputable def ckIv : Bool := decide ((aYf = aYf ∧ q1v ks B B.length (c0 (rwL L i)) (c1 (rwL L i)) (c2 (rwL L i)) (c3 (rwL L i)) (c4 (rwL L i)) (c0 (rwL L i)) (c1 (rwL L i)) (c2 (rwL L i)) (c3 (rwL L i)) (c4 (rwL L i)) .ready = q1v ks B B.length (c0 (rwL L i)) (c1 (rwL L i)) (c2 (rwL L i)) (c3 (rwL L i)) (c4 (rwL L i)) (c0 (rwL L i)) (c1 (rwL L i)) (c2 (rwL L i)) (c3 (rwL L i)) (c4 (rwL L i)) .ready) ∧ (0 ≤ c3 (rwL L i) ∧ c3 (rwL L i) ≤ 1000) ∧ (0 ≤ c4 (rwL L i) ∧ c4 (rwL L i) ≤ 1000) ∧ B.length ≤ 1000)
open Classical in
noncomputable def ckIm : Bool := decide ((aYf = aYf ∧ q2 ks (c0 (rwL L i)) (c1 (rwL L i)) (c2 (rwL L i)) (c3 (rwL L i)) (c4 (rwL L i)) .ready = q2 ks (c0 (rwL L i)) (c1 (rwL L i)) (c2 (rwL L i)) (c3 (rwL L i)) (c4 (rwL L i)) .ready) ∧ (0 ≤ c3 (rwL L i) ∧ c3 (rwL L i) ≤ 1000) ∧ 0 ≤ c4 (rwL L i) ∧ c4 (rwL L i) ≤ 1000)
def ckBv : Bool := decide ((vA B).len = B.length * 3) && roomB (B.length + 1) 24
def ckPv : Bool := decide ((vS P).len = a * 5) && roomB (a + 1) 40
end
end Go.Proofs.YtphhepnldndbhaaGreatDoor
namespace Go.Proofs.YtphhepnldndbhaaGreatDoor
open Go Sx
structure PlS where
  P : List (List CV)
  B : List (List CV)
  ks : List (List Int)
def plN (L : List (List CV)) (ks0 : List (List Int)) : Nat → PlS
  | 0 => ⟨[], [], ks0⟩
  | j + 1 => qyw (!arL L (j : Int)) ⟨(plN L ks0 j).P, (plN L ks0 j).B ++ [atL1 L (j : Int)], (plN L ks0 j).ks⟩ (qyw (hitL L (plN L ks0 j).ks (j : Int)) ⟨(plN L ks0 j).P, (plN L ks0 j).B ++ [atL1 L (j : Int)], (plN L ks0 j).ks⟩ ⟨(plN L ks0 j).P ++ [spL1 L (j : Int)], (plN L ks0 j).B, addL L (plN L ks0 j).ks (j : Int)⟩)
theorem plN_len (L : List (List CV)) (ks0 : List (List Int)) : ∀ j, (plN L ks0 j).P.length + (plN L ks0 j).B.length = j
  | 0 => rfl
  | j + 1 => by
    have ih := plN_len L ks0 j
    rw [plN]
    cases !arL L (j : Int) with
    | true => simp only [qyw, List.length_append, List.length_singleton]; omega
    | false => cases hitL L (plN L ks0 j).ks (j : Int) <;> simp only [qyw, List.length_append, List.length_singleton] <;> omega
def sMXof (pre : List (Option PObj)) (K : Nat) : List (List CV) → List (List CV) → qzw
  | [], [] => sMX pre .qzz K [some (oP1 .qzz 22)]
  | [], B => sMX pre .qzz K [some (oP1 (.vec (K + 1) B.length) 22), some (vA B)]
  | P, [] => sMX pre (.vec K P.length) (K + 1) [some (vS P), some (oP1 .qzz 22)]
  | P, B => sMX pre (.vec K P.length) (K + 1) [some (vS P), some (oP1 (.vec (K + 2) B.length) 22), some (vA B)]
section
variable {pre : List (Option PObj)} {K m : Nat} {i : Int} {ks : List (List Int)}
end
section
variable {X Y L : List (List CV)} {ks ks0 : List (List Int)} {p q : Nat}
theorem ckBv_ok {B : List (List CV)} (hB : B.length ≤ 1000) : ckBv B = true := by
  unfold ckBv roomB
  rw [decide_eq_true (show (vA B).len = B.length * 3 from rfl)]; exact decide_eq_true ⟨by omega, by omega⟩
theorem ckPv_ok {P : List (List CV)} (hP : P.length ≤ 1000) : ckPv P P.length = true := by
  unfold ckPv roomB
  rw [decide_eq_true (show (vS P).len = P.length * 5 from rfl)]; exact decide_eq_true ⟨by omega, by omega⟩
end
end Go.Proofs.YtphhepnldndbhaaGreatDoor
namespace Go.Proofs.YtphhepnldndbhaaGreatDoor
open Go Sx
noncomputable abbrev loopT : Code := (qyu (bodyOf Tryz.f14)).headD .skip
abbrev kT : Nat → Bool := fun n => hasN [1, 9, 28, 29, 30] n
abbrev kTX : Nat → Bool := fun n => hasN [1, 9] n
def sT (pre : List (Option PObj)) (K : Nat) (own : AV) (nc : Nat) (i : Int) (C : List (List CV)) (ks : List (List Int)) : qzw := ⟨none :: some own :: nn 7 ++ (some (.ptr K 0) :: nn 18 ++ (some (.vec (K + 1) nc) :: some (.int .i64 (nc : Int)) :: some (.int .i64 i) :: nn 55)), pre ++ (some (oP1 (.mapp (K + 2)) 71) :: some (vA C) :: some (oM ks) :: nn 64)⟩
def sTX (pre : List (Option PObj)) (K : Nat) (own : AV) (ks : List (List Int)) : qzw := ⟨none :: some own :: nn 7 ++ (some (.ptr K 0) :: nn 76), pre ++ (some (oP1 (.mapp (K + 1)) 71) :: some (oM ks) :: nn 64)⟩
def tkN (C : List (List CV)) : Nat → List (List Int)
  | 0 => []
  | j + 1 => addK (tkN C j) [c0 (Sx.rowAt C j), c1 (Sx.rowAt C j), c2 (Sx.rowAt C j)]
section
variable (X Y L C : List (List CV)) (ks : List (List Int)) (p q m n : Nat) (i : Int)
end
section
variable {X Y L C : List (List CV)} {p q m : Nat}
end
end Go.Proofs.YtphhepnldndbhaaGreatDoor
namespace Go.Proofs.YtphhepnldndbhaaGreatDoor
open Go Sx
open Classical in
noncomputable def eClq (pre : List PObj) (C : List (List CV)) : Ent := fun args pre' => .chk (decide ((args = [bkW] ∧ pre' = pre) ∧ Meets Tryz.prog 20 [bkW] (pre.map PObj.toA) (clV (.vec pre.length C.length)) ((pre ++ [vA C]).map PObj.toA))) (.ret (clV (.vec pre.length C.length)) (pre ++ [vA C]))
open Classical in
theorem eClq_ok (pre : List PObj) (C : List (List CV)) : EntOK Tryz.prog 20 (eClq pre C) := fun args pre' => by
  unfold eClq
  refine ⟨fun g => ?_, fun _ => trivial⟩
  obtain ⟨⟨rfl, rfl⟩, h⟩ := of_decide_eq_true g
  exact h
open Classical in
noncomputable def ckCl (pre : List PObj) (C : List (List CV)) : Bool := decide (([bkW] = [bkW] ∧ pre = pre) ∧ Meets Tryz.prog 20 [bkW] (pre.map PObj.toA) (clV (.vec pre.length C.length)) ((pre ++ [vA C]).map PObj.toA))
noncomputable def lvP2 (K : Nat) (S6 : qzw) (x6 : LAns) (S15 : qzw) (x15 : LAns) : FuncId → Lv := lvOf 14 (fun i => if i = 6 then some [1, 9, 28, 29, 30] else if i = 15 then some [9, 12, 13, 41, 42, 43] else none) (twoL 6 (eAt K S6 x6) 15 (eAt K S15 x15))
def outM (pre : List (Option PObj)) (K : Nat) (P B : List (List CV)) (a b : Nat) (c bP bB : Bool) : LAns := .chk c (.br bP (.br bB (.out (.exit 2) (sMX pre .qzz K [some (oP1 .qzz 22)])) (.out (.exit 2) (sMX pre .qzz K [some (oP1 (.vec (K + 1) b) 22), some (vA B)])))
  (.br bB (.out (.exit 2) (sMX pre (.vec K a) (K + 1) [some (vS P), some (oP1 .qzz 22)])) (.out (.exit 2) (sMX pre (.vec K a) (K + 1) [some (vS P), some (oP1 (.vec (K + 2) b) 22), some (vA B)]))))
abbrev plV (p q : AV) : AV := .tuple [p, q, .int .i64 0]
section
variable (X Y L C P B : List (List CV)) (ks : List (List Int)) (p q a b : Nat) (c1 c2 bP bB : Bool)
open Classical in
noncomputable def eClz (pre : List PObj) : Ent := fun args pre' => .chk (decide ((args = [bkW] ∧ pre' = pre) ∧ Meets Tryz.prog 20 [bkW] (pre.map PObj.toA) (clV .qzz) (pre.map PObj.toA))) (.ret (clV .qzz) pre)
open Classical in
theorem eClz_ok (pre : List PObj) : EntOK Tryz.prog 20 (eClz pre) := fun args pre' => by
  unfold eClz
  refine ⟨fun g => ?_, fun _ => trivial⟩
  obtain ⟨⟨rfl, rfl⟩, h⟩ := of_decide_eq_true g
  exact h
open Classical in
noncomputable def ckClz (pre : List PObj) : Bool := decide (([bkW] = [bkW] ∧ pre = pre) ∧ Meets Tryz.prog 20 [bkW] (pre.map PObj.toA) (clV .qzz) (pre.map PObj.toA))
end
end Go.Proofs.YtphhepnldndbhaaGreatDoor
namespace Go.Proofs.YtphhepnldndbhaaGreatDoor
open Go Sx
def plR (n : Nat) : List (List CV) → AV
  | [] => .qzz
  | P => .vec n P.length
def plO : List (List CV) → List PObj
  | [] => []
  | P => [vS P]
theorem lvP2_ok {K : Nat} {S6 S15 : qzw} {x6 x15 : LAns} (h6 : LAnsOK Tryz.prog loopT K S6 x6) (h15 : LAnsOK Tryz.prog loopQ K S15 x15) : LvOK Tryz.prog (lvP2 K S6 x6 S15 x15) :=
  lvTwo_ok (x := loopT) (y := loopQ) Tryz.func14 (by kernel_rfl) (by kernel_rfl) (by kernel_rfl) (by decide) (fun K' t => eAt_ok h6 K' t) (fun K' t => eAt_ok h15 K' t)
theorem outM_ok {pre : List (Option PObj)} {K : Nat} {S : qzw} {P B : List (List CV)} (key : Tri Tryz.prog (.loop loopQ) S.toA (.exit 2) (sMXof pre K P B).toA K) : LAnsOK Tryz.prog loopQ K S (outM pre K P B P.length B.length true (isNil P) (isNil B)) := by
  refine ⟨fun _ => ⟨fun h => ⟨fun h' => ?_, fun h' => ?_⟩, fun h => ⟨fun h' => ?_, fun h' => ?_⟩⟩, fun _ => trivial⟩ <;> cases P <;> cases B <;> first | exact key | (cases h; done) | (cases h'; done)
theorem bk_pos {X Y : List (List CV)} (h : 0 < X.length + Y.length) : 0 < (clL X Y).length := by
  unfold clL
  rw [List.length_append, colL_len, colL_len]; exact h
theorem clL_le {X Y : List (List CV)} (h : okBk X Y) : (clL X Y).length ≤ 1000 := by
  unfold clL
  rw [List.length_append, colL_len, colL_len]; have := h.2.2; omega
theorem cm_x {x : List CV} {X : List (List CV)} (h : okBk (x :: X) ([])) : Meets Tryz.prog 20 [bkW] ([oSh (.vec 1 (x :: X).length) .qzz, vC (x :: X)].map PObj.toA) (clV (.vec 2 (clL (x :: X) ([])).length)) (([oSh (.vec 1 (x :: X).length) .qzz, vC (x :: X)] ++ [vA (clL (x :: X) ([]))]).map PObj.toA) := by
  have hp := bk_pos (X := x :: X) (Y := []) (by simp only [List.length_cons]; omega)
  have key := cells_meets h
  rw [(cl_pos hp).1, (cl_pos (n := 0) hp).2] at key
  exact key
theorem cm_y {y : List CV} {Y : List (List CV)} (h : okBk ([]) (y :: Y)) : Meets Tryz.prog 20 [bkW] ([oSh .qzz (.vec 1 (y :: Y).length), vC (y :: Y)].map PObj.toA) (clV (.vec 2 (clL ([]) (y :: Y)).length)) (([oSh .qzz (.vec 1 (y :: Y).length), vC (y :: Y)] ++ [vA (clL ([]) (y :: Y))]).map PObj.toA) := by
  have hp := bk_pos (X := []) (Y := y :: Y) (by simp only [List.length_cons]; omega)
  have key := cells_meets h
  rw [(cl_pos hp).1, (cl_pos (n := 0) hp).2] at key
  exact key
theorem cm_b {x : List CV} {X : List (List CV)} {y : List CV} {Y : List (List CV)} (h : okBk (x :: X) (y :: Y)) : Meets Tryz.prog 20 [bkW] ([oSh (.vec 1 (x :: X).length) (.vec 2 (y :: Y).length), vC (x :: X), vC (y :: Y)].map PObj.toA) (clV (.vec 3 (clL (x :: X) (y :: Y)).length)) (([oSh (.vec 1 (x :: X).length) (.vec 2 (y :: Y).length), vC (x :: X), vC (y :: Y)] ++ [vA (clL (x :: X) (y :: Y))]).map PObj.toA) := by
  have hp := bk_pos (X := x :: X) (Y := y :: Y) (by simp only [List.length_cons]; omega)
  have key := cells_meets h
  rw [(cl_pos hp).1, (cl_pos (n := 0) hp).2] at key
  exact key
theorem ahdB_iff {s r c s' r' c' : Int} : ahdB s r c s' r' c' = true ↔ (s < s' ∨ s = s' ∧ (r < r' ∨ r = r' ∧ c < c')) := by
  unfold ahdB
  by_cases h1 : s = s'
  · rw [bcF (b := s != s') (by rw [h1]; simp)]
    by_cases h2 : r = r'
    · rw [bcF (b := r != r') (by rw [h2]; simp), decide_eq_true_eq]; omega
    · rw [bcT (b := r != r') (bne_iff_ne.2 h2), decide_eq_true_eq]; omega
  · rw [bcT (b := s != s') (bne_iff_ne.2 h1), decide_eq_true_eq]; omega
theorem cmI_lt {a b : Int} (h : a < b) : cmI a b = -1 := by unfold cmI; rw [decide_eq_true h]; rfl
theorem cmI_eq (a : Int) : cmI a a = 0 := by unfold cmI; rw [decide_eq_false (p := a < a) (by omega)]; rfl
theorem cmP_of {s r c s' r' c' : Int} (h : s < s' ∨ s = s' ∧ (r < r' ∨ r = r' ∧ c < c')) : cmP s r c s' r' c' = -1 := by
  unfold cmP
  rcases h with h | ⟨rfl, h | ⟨rfl, h⟩⟩
  · rw [cmI_lt h]; rfl
  · rw [cmI_eq, cmI_lt h]; rfl
  · rw [cmI_eq, cmI_eq, cmI_lt h]; rfl
def ltR (x y : List CV) : Prop := ahdR x y = true
theorem ltR_iff {x y : List CV} : ltR x y ↔ (c0 x < c0 y ∨ c0 x = c0 y ∧ (c1 x < c1 y ∨ c1 x = c1 y ∧ c2 x < c2 y)) := ahdB_iff
theorem ltR_trans {x y z : List CV} (h : ltR x y) (h' : ltR y z) : ltR x z := by
  rw [ltR_iff] at *; omega
theorem ltR_other {x y : List CV} (h : ¬ ltR x y) (he : eqR x y = false) : ltR y x := by
  rw [ltR_iff] at *
  by_cases e : c0 x = c0 y ∧ c1 x = c1 y ∧ c2 x = c2 y
  · obtain ⟨e1, e2, e3⟩ := e
    have : eqR x y = true := by unfold eqR eqA3; simp [e1, e2, e3]
    rw [this] at he; cases he
  · omega
theorem rowAt_get {l : List (List CV)} {i : Nat} (h : i < l.length) : Sx.rowAt l i = l[i] := by unfold Sx.rowAt; simp [h]
theorem pw_at {l : List (List CV)} {Q : List CV → List CV → Prop} (h : l.Pairwise Q) {i j : Nat} (hj : j < l.length) (hij : i < j) : Q (Sx.rowAt l i) (Sx.rowAt l j) := by
  rw [rowAt_get hj, rowAt_get (show i < l.length by omega)]
  exact List.pairwise_iff_getElem.1 h i j (by omega) hj hij
theorem scN_spec {O : List (List CV)} {p : List CV} (hO : O.Pairwise ltR) : ∀ k, k ≤ O.length → (∀ i, i < scN O p k → ltR (Sx.rowAt O i) p) ∧ ∀ i, scN O p k ≤ i → i < k → ¬ ltR (Sx.rowAt O i) p
  | 0, _ => ⟨fun i hi => absurd hi (Nat.not_lt_zero i), fun i _ hi => absurd hi (Nat.not_lt_zero i)⟩
  | k + 1, hk => by
    have ih := scN_spec (p := p) hO k (by omega)
    rw [scN]
    cases h : ahdR (Sx.rowAt O k) p with
    | true =>
      simp only [qyw]
      refine ⟨fun i hi => ?_, fun i h1 h2 => absurd h2 (by omega)⟩
      by_cases e : i = k
      · rw [e]; exact h
      · exact ltR_trans (pw_at hO (show k < O.length by omega) (by omega)) h
    | false =>
      simp only [qyw]
      refine ⟨ih.1, fun i h1 h2 => ?_⟩
      by_cases e : i = k
      · rw [e]; intro h'; rw [ltR, h] at h'; cases h'
      · exact ih.2 i h1 (by omega)
theorem scB_spec {O : List (List CV)} {p : List CV} : ∀ k, scB O p k = false → ∀ i, i < k → eqR (Sx.rowAt O i) p = false
  | 0, _, i, hi => absurd hi (Nat.not_lt_zero i)
  | k + 1, h, i, hi => by
    rw [scB, Bool.or_eq_false_iff] at h
    by_cases e : i = k
    · rw [e]; exact h.2
    · exact scB_spec k h.1 i (by omega)
theorem insA_sorted {O : List (List CV)} {p : List CV} (hO : O.Pairwise ltR) : (insA O p).Pairwise ltR := by
  unfold insA
  cases hb : scB O p O.length with
  | true => exact hO
  | false =>
    obtain ⟨h1, h2⟩ := scN_spec (p := p) hO O.length (Nat.le_refl _)
    have h3 := scB_spec O.length hb
    have hle := scN_le O p O.length
    generalize scN O p O.length = n at *
    show (O.take n ++ [p] ++ O.drop n).Pairwise ltR
    have tk : ∀ a ∈ O.take n, ∃ i, i < n ∧ i < O.length ∧ a = Sx.rowAt O i := fun a ha => by
      obtain ⟨i, hi, e⟩ := List.mem_iff_getElem.1 ha
      rw [List.length_take] at hi
      exact ⟨i, by omega, by omega, by rw [rowAt_get (show i < O.length by omega), ← e, List.getElem_take]⟩
    have dr : ∀ b ∈ O.drop n, ∃ i, n ≤ i ∧ i < O.length ∧ b = Sx.rowAt O i := fun b hb' => by
      obtain ⟨i, hi, e⟩ := List.mem_iff_getElem.1 hb'
      rw [List.length_drop] at hi
      exact ⟨n + i, by omega, by omega, by rw [rowAt_get (show n + i < O.length by omega), ← e, List.getElem_drop]⟩
    rw [List.pairwise_append, List.pairwise_append]
    refine ⟨⟨hO.sublist (List.take_sublist n O), List.pairwise_singleton _ _, fun a ha b hb' => ?_⟩, hO.sublist (List.drop_sublist n O), fun a ha b hb' => ?_⟩
    · obtain ⟨i, hi, _, rfl⟩ := tk a ha
      rw [List.mem_singleton.1 hb']; exact h1 i hi
    · obtain ⟨j, hj, hj', rfl⟩ := dr b hb'
      rcases List.mem_append.1 ha with ha | ha
      · obtain ⟨i, hi, _, rfl⟩ := tk a ha
        exact pw_at hO hj' (by omega)
      · rw [List.mem_singleton.1 ha]
        exact ltR_other (h2 j hj hj') (h3 j hj')
theorem atsL_sorted (R : List (List CV)) : ∀ k, (atsL R k).Pairwise ltR
  | 0 => List.Pairwise.nil
  | k + 1 => by rw [atsL]; exact insA_sorted (atsL_sorted R k)
theorem bkL_mem {A : List (List CV)} {s : Int} {y : List CV} : ∀ j, y ∈ bkL A s j → ∃ i, i < j ∧ c0 (Sx.rowAt A i) = s ∧ y = mkC (c1 (Sx.rowAt A i)) (c2 (Sx.rowAt A i))
  | 0, h => nomatch h
  | j + 1, h => by
    rw [bkL] at h
    cases e : c0 (Sx.rowAt A j) == s with
    | true =>
      rw [e] at h
      rcases List.mem_append.1 h with h | h
      · obtain ⟨i, hi, h1, h2⟩ := bkL_mem j h
        exact ⟨i, by omega, h1, h2⟩
      · exact ⟨j, by omega, eq_of_beq e, List.mem_singleton.1 h⟩
    | false =>
      rw [e] at h
      obtain ⟨i, hi, h1, h2⟩ := bkL_mem j h
      exact ⟨i, by omega, h1, h2⟩
theorem bkL_sorted {A : List (List CV)} {s : Int} (hA : A.Pairwise ltR) : ∀ j, j ≤ A.length → (bkL A s j).Pairwise fun x y => cmP 0 (c0 x) (c1 x) 0 (c0 y) (c1 y) = -1
  | 0, _ => List.Pairwise.nil
  | j + 1, hj => by
    have ih := bkL_sorted (s := s) hA j (by omega)
    rw [bkL]
    cases e : c0 (Sx.rowAt A j) == s with
    | false => exact ih
    | true =>
      show (bkL A s j ++ [_]).Pairwise _
      rw [List.pairwise_append]
      refine ⟨ih, List.pairwise_singleton _ _, fun a ha b hb => ?_⟩
      obtain ⟨i, hi, h1, rfl⟩ := bkL_mem j ha
      rw [List.mem_singleton.1 hb]
      have := pw_at hA (show j < A.length by omega) hi
      rw [ltR_iff] at this
      have e := eq_of_beq e
      exact cmP_of (.inr ⟨rfl, by show c1 (Sx.rowAt A i) < c1 (Sx.rowAt A j) ∨ _; rw [h1, e] at this; rcases this with h | ⟨_, h⟩; exact absurd h (by omega); exact h⟩)
theorem okW_of {X : List (List CV)} (hl : X.length ≤ 400) (hX : X.Pairwise fun x y => cmP 0 (c0 x) (c1 x) 0 (c0 y) (c1 y) = -1) (hm : ∀ x ∈ X, ∃ r c, x = mkC r c ∧ (0 ≤ r ∧ r < 200) ∧ 0 ≤ c ∧ c < 52) : okW X := by
  refine ⟨hl, fun j hj => ?_⟩
  obtain ⟨r, c, e, ⟨h1, h2⟩, h3, h4⟩ := hm (Sx.rowAt X j) (by rw [rowAt_get hj]; exact List.getElem_mem hj)
  refine ⟨?_, by rw [e]; rfl, fun k hk => by subst hk; exact pw_at hX hj (by omega)⟩
  rw [e]
  show hasB 0 0 0 200 52 0 r c = true
  have ha : areaB 0 0 0 200 52 = true := (areaB_iff (by decide) (by decide)).2 (by omega)
  unfold hasB hasC
  rw [allB_iff, ha]
  have w1 : w64 (0 + 200) = 200 := by decide
  have w2 : w64 (0 + 52) = 52 := by decide
  rw [w1, w2]
  simp only [List.mem_cons, List.not_mem_nil, or_false, forall_eq_or_imp, forall_eq, decide_eq_true_eq]
  exact ⟨trivial, by decide, h1, h2, h3, h4⟩
theorem bkX_ok (R : List (List CV)) (a : Nat) (s : Int) : okW (bkX R a s) ∧ (bkX R a s).length ≤ 12 := by
  have hl := bkL_le (atsL R (m12 a)) s (atsL R (m12 a)).length
  have hk := atsL_le R (m12 a)
  have h12 : m12 a ≤ 12 := Nat.min_le_right ..
  have hl : (bkX R a s).length ≤ 12 := by unfold bkX; omega
  refine ⟨okW_of (by omega) (bkL_sorted (atsL_sorted R _) _ (Nat.le_refl _)) fun x hx => ?_, hl⟩
  obtain ⟨i, hi, _, rfl⟩ := bkL_mem _ hx
  obtain ⟨y, e⟩ := atsL_in R (m12 a) hi
  have := plA_in y
  rw [e]
  exact ⟨_, _, rfl, by omega, by omega⟩
theorem book_ok (R : List (List CV)) (a : Nat) : okBk (bkX R a 0) (bkX R a 1) := by
  have h0 := bkX_ok R a 0
  have h1 := bkX_ok R a 1
  exact ⟨h0.1, h1.1, by omega⟩
theorem memK_iff {ks : List (List Int)} {k : List Int} : memK ks k = true ↔ k ∈ ks := by
  unfold memK
  rw [List.any_eq_true]
  exact ⟨fun ⟨x, hx, e⟩ => by rw [eq_of_beq e]; exact hx, fun h => ⟨k, h, beq_self_eq_true k⟩⟩
theorem mem_addK {ks : List (List Int)} {k x : List Int} : x ∈ addK ks k ↔ x ∈ ks ∨ x = k := by
  unfold addK
  cases h : memK ks k with
  | true =>
    show x ∈ ks ↔ _
    exact ⟨.inl, fun h' => h'.elim id fun e => by rw [e]; exact memK_iff.1 h⟩
  | false =>
    show x ∈ ks ++ [k] ↔ _
    rw [List.mem_append, List.mem_singleton]
abbrev keyR (x : List CV) : List Int := [c0 x, c1 x, c2 x]
theorem mem_tkN {C : List (List CV)} {k : List Int} : ∀ n, k ∈ tkN C n ↔ ∃ i, i < n ∧ k = keyR (Sx.rowAt C i)
  | 0 => ⟨(fun h => nomatch h), fun ⟨i, hi, _⟩ => absurd hi (Nat.not_lt_zero i)⟩
  | n + 1 => by
    rw [tkN, mem_addK, mem_tkN n]
    constructor
    · rintro (⟨i, hi, e⟩ | e)
      · exact ⟨i, by omega, e⟩
      · exact ⟨n, by omega, e⟩
    · rintro ⟨i, hi, e⟩
      by_cases h : i = n
      · exact .inr (by rw [← h]; exact e)
      · exact .inl ⟨i, by omega, e⟩
theorem mem_colL {s : Int} {X : List (List CV)} {y : List CV} : ∀ j, y ∈ colL s X j ↔ ∃ i, i < j ∧ y = mkA s (c0 (Sx.rowAt X i)) (c1 (Sx.rowAt X i))
  | 0 => ⟨(fun h => nomatch h), fun ⟨i, hi, _⟩ => absurd hi (Nat.not_lt_zero i)⟩
  | j + 1 => by
    rw [colL, List.mem_append, List.mem_singleton, mem_colL j]
    constructor
    · rintro (⟨i, hi, e⟩ | e)
      · exact ⟨i, by omega, e⟩
      · exact ⟨j, by omega, e⟩
    · rintro ⟨i, hi, e⟩
      by_cases h : i = j
      · exact .inr (by rw [← h]; exact e)
      · exact .inl ⟨i, by omega, e⟩
theorem spL_mem {A Z : List (List CV)} {z : Nat} {y : List CV} : ∀ j, y ∈ spL A Z z j → ∃ i, i < j ∧ 0 < qyv (c0 (Sx.rowAt Z (i % z))) 6 ∧ y = spR (Sx.rowAt A i) (Sx.rowAt Z (i % z))
  | 0, h => nomatch h
  | j + 1, h => by
    rw [spL] at h
    cases e : decide (qyv (c0 (Sx.rowAt Z (j % z))) 6 > 0) with
    | true =>
      rw [e] at h
      rcases List.mem_append.1 h with h | h
      · obtain ⟨i, hi, h1, h2⟩ := spL_mem j h
        exact ⟨i, by omega, h1, h2⟩
      · exact ⟨j, by omega, of_decide_eq_true e, List.mem_singleton.1 h⟩
    | false =>
      rw [e] at h
      obtain ⟨i, hi, h1, h2⟩ := spL_mem j h
      exact ⟨i, by omega, h1, h2⟩
theorem spW_mem {R : List (List CV)} {a : Nat} {Z : List (List CV)} {z : Nat} {y : List CV} (h : y ∈ spW R a Z z) : ∃ i, i < (atsL R (m12 a)).length ∧ 0 < qyv (c0 (Sx.rowAt Z (i % z))) 6 ∧ y = spR (Sx.rowAt (atsL R (m12 a)) i) (Sx.rowAt Z (i % z)) := by
  unfold spW spA at h
  cases e : Nat.beq z 0 with
  | true => rw [e] at h; nomatch h
  | false => rw [e] at h; exact spL_mem _ h
theorem spW_le (R : List (List CV)) (a : Nat) (Z : List (List CV)) (z : Nat) : (spW R a Z z).length ≤ 12 := by
  have hk := atsL_le R (m12 a)
  have h12 : m12 a ≤ 12 := Nat.min_le_right ..
  have := spL_le (atsL R (m12 a)) Z z (atsL R (m12 a)).length
  unfold spW spA
  cases Nat.beq z 0 with
  | true => exact Nat.zero_le _
  | false => show (spL _ _ _ _).length ≤ 12; omega
theorem spW_row {R : List (List CV)} {a : Nat} {Z : List (List CV)} {z : Nat} {y : List CV} (h : y ∈ spW R a Z z) : (∃ i, i < (atsL R (m12 a)).length ∧ keyR y = keyR (Sx.rowAt (atsL R (m12 a)) i)) ∧ y = mkS (c0 y) (c1 y) (c2 y) (c3 y) (c4 y) ∧ (0 ≤ c0 y ∧ c0 y < 2) ∧ (0 ≤ c1 y ∧ c1 y < 200) ∧ (0 ≤ c2 y ∧ c2 y < 52) ∧ (1 ≤ c3 y ∧ c3 y ≤ 5) ∧ 1 ≤ c4 y ∧ c4 y ≤ 5 := by
  obtain ⟨i, hi, h0, rfl⟩ := spW_mem h
  obtain ⟨x, e⟩ := atsL_in R (m12 a) hi
  obtain ⟨p1, p2, p3, p4, p5, p6⟩ := plA_in x
  have q1 := pickS_in (c := c0 (Sx.rowAt Z (i % z))) (n := 6) (by decide)
  have q2 := pickS_in (c := c1 (Sx.rowAt Z (i % z))) (n := 5) (by decide)
  have ew : w64 (1 + qyv (c1 (Sx.rowAt Z (i % z))) 5) = 1 + qyv (c1 (Sx.rowAt Z (i % z))) 5 := w64_of (inI_iff.2 ⟨by omega, by omega⟩)
  refine ⟨⟨i, hi, rfl⟩, rfl, ?_⟩
  show (0 ≤ c0 (Sx.rowAt (atsL R (m12 a)) i) ∧ _) ∧ (0 ≤ c1 (Sx.rowAt (atsL R (m12 a)) i) ∧ _) ∧ (0 ≤ c2 (Sx.rowAt (atsL R (m12 a)) i) ∧ _) ∧ (1 ≤ qyv (c0 (Sx.rowAt Z (i % z))) 6 ∧ _) ∧ 1 ≤ w64 (1 + qyv (c1 (Sx.rowAt Z (i % z))) 5) ∧ w64 (1 + qyv (c1 (Sx.rowAt Z (i % z))) 5) ≤ 5
  rw [e, ew]
  show (0 ≤ c0 (plA x) ∧ c0 (plA x) < 2) ∧ (0 ≤ c1 (plA x) ∧ c1 (plA x) < 200) ∧ (0 ≤ c2 (plA x) ∧ c2 (plA x) < 52) ∧ (1 ≤ qyv (c0 (Sx.rowAt Z (i % z))) 6 ∧ qyv (c0 (Sx.rowAt Z (i % z))) 6 ≤ 5) ∧ _
  omega
theorem row_mem {l : List (List CV)} {j : Nat} (h : j < l.length) : Sx.rowAt l j ∈ l := by rw [rowAt_get h]; exact List.getElem_mem h
end Go.Proofs.YtphhepnldndbhaaGreatDoor
namespace Go.Proofs.YtphhepnldndbhaaGreatDoor
open Go Sx
noncomputable abbrev loopV : Code := (qyu (bodyOf Tryz.f18)).headD .skip
def tCv : Tab := [(23, eHas)]
theorem tCv_ok : TabOK Tryz.prog tCv := .cons eHas_ok .nil
abbrev kV : Nat → Bool := fun n => hasN [3, 4, 8, 9, 10] n
abbrev kVX : Nat → Bool := fun n => hasN [4, 5] n
section
variable (L : List (List CV)) (x : List CV) (n : Nat) (i s r c : Int)
def sV : qzw := ⟨nn 3 ++ (some (.ptr 1 0) :: some (.ptr 2 0) :: nn 3 ++ (some (.vec 0 n) :: some (.int .i64 (n : Int)) :: some (.int .i64 i) :: nn 10)), some (vS L) :: some (oA3 s r c) :: some (oS5 0 0 0 0 0) :: nn 64⟩
def sVX : qzw := ⟨nn 4 ++ (some (.ptr 1 0) :: nn 16), some (vS L) :: some (oS5 0 0 0 0 0) :: nn 64⟩
def sVR : qzw := ⟨nn 4 ++ (some (.ptr 1 0) :: some (.bool true) :: nn 15), some (vS L) :: some (oS5 (c0 x) (c1 x) (c2 x) (c3 x) (c4 x)) :: nn 64⟩
abbrev hasR (x : List CV) (s r c : Int) : Bool := hasB (c0 x) (c1 x) (c2 x) (c3 x) (c4 x) s r c
theorem rV : code (ent Tryz.prog tCv nolv 64 1 20) Tryz.prog {} 1 64 1 loopV (sV L n i s r c) (endK 1 64 kV kVX)
  = qyw (decide (i < (n : Int))) (chks (qyw (hasR (Sx.rowAt L i.toNat) s r c) (some (.ret, sVR L (Sx.rowAt L i.toNat))) (some (.normal, sV L n (up1 i) s r c))) (ckR L n i)) (some (.exit 0, sVX L)) := by kernel_rfl
end
def firstN (f : Nat → Bool) : Nat → Nat
  | 0 => 0
  | n + 1 => qyw (decide (firstN f n < n)) (firstN f n) (qyw (f n) n (n + 1))
theorem firstN_spec (f : Nat → Bool) : ∀ n, firstN f n ≤ n ∧ (∀ i, i < firstN f n → f i = false) ∧ (firstN f n < n → f (firstN f n) = true)
  | 0 => ⟨Nat.le_refl _, fun i hi => absurd hi (Nat.not_lt_zero i), fun h => absurd h (Nat.not_lt_zero _)⟩
  | n + 1 => by
    obtain ⟨h1, h2, h3⟩ := firstN_spec f n
    rw [firstN]
    by_cases h : firstN f n < n
    · rw [decide_eq_true h]
      exact ⟨by show firstN f n ≤ n + 1; omega, h2, fun _ => h3 h⟩
    · rw [decide_eq_false h]
      have e : firstN f n = n := by omega
      cases hf : f n with
      | true => exact ⟨Nat.le_succ n, fun i hi => h2 i (by have : i < n := hi; omega), fun _ => hf⟩
      | false => exact ⟨Nat.le_refl _, fun i hi => by
          have hi : i < n + 1 := hi
          by_cases e' : i = n
          · rw [e']; exact hf
          · exact h2 i (by omega), fun h => absurd h (Nat.lt_irrefl _)⟩
def covN (L : List (List CV)) (s r c : Int) : Nat := firstN (fun j => hasR (Sx.rowAt L j) s r c) L.length
section
variable {L : List (List CV)} {s r c : Int}
theorem nextV (hl : L.length ≤ 1000) {j : Nat} (hj : j < L.length) (h : hasR (Sx.rowAt L j) s r c = false) : Tri Tryz.prog loopV (sV L L.length (j : Int) s r c).toA .normal (sV L L.length ((j + 1 : Nat) : Int) s r c).toA 1 :=
  qzx tCv_ok ((rV L L.length (j : Int) s r c).trans (by rw [bcT (decide_eq_true (by omega)), qzy (ckR_ok hj), Int.toNat_natCast, bcF h, up1_nat (by omega)]))
theorem loopVV (hl : L.length ≤ 1000) : (decide (covN L s r c < L.length) = true → Tri Tryz.prog (.loop loopV) (sV L L.length 0 s r c).toA .ret (sVR L (Sx.rowAt L (covN L s r c))).toA 1) ∧ (decide (covN L s r c < L.length) = false → Tri Tryz.prog (.loop loopV) (sV L L.length 0 s r c).toA (.exit 0) (sVX L).toA 1) := by
  have key := firstN_spec (fun j => hasR (Sx.rowAt L j) s r c) L.length
  have h1 : covN L s r c ≤ L.length := key.1
  have h2 : ∀ i, i < covN L s r c → hasR (Sx.rowAt L i) s r c = false := key.2.1
  have h3 : covN L s r c < L.length → hasR (Sx.rowAt L (covN L s r c)) s r c = true := key.2.2
  clear key
  refine ⟨fun h => ?_, fun h => ?_⟩
  · have h := of_decide_eq_true h
    refine tri_up (body := loopV) (fun j => (sV L L.length (j : Int) s r c).toA) (fun e => by cases e) (covN L s r c) (fun k hk => nextV hl (by omega) (h2 k hk)) ?_ 0 (Nat.zero_le _)
    exact qzx tCv_ok ((rV L L.length (covN L s r c : Int) s r c).trans (by rw [bcT (decide_eq_true (by omega)), qzy (ckR_ok h), Int.toNat_natCast, bcT (h3 h)]))
  · have h := of_decide_eq_false h
    have e : covN L s r c = L.length := by omega
    refine tri_up (body := loopV) (fun j => (sV L L.length (j : Int) s r c).toA) (fun e => by cases e) L.length (fun k hk => nextV hl hk (h2 k (by omega))) ?_ 0 (Nat.zero_le _)
    exact qzx tCv_ok ((rV L L.length (L.length : Int) s r c).trans (by rw [bcF (decide_eq_false (by omega))]))
end
noncomputable def lvV (L : List (List CV)) (s r c : Int) (x : List CV) (ok b : Bool) : FuncId → Lv := lvOf 18 (fun _ => some [3, 4, 8, 9, 10]) (oneL 2 (eAt 1 (sV L L.length 0 s r c) (.chk ok (.br b (.out .ret (sVR L x)) (.out (.exit 0) (sVX L))))))
abbrev cvV (x : List CV) : AV := .tuple [.agg [.int .i64 (c0 x), .int .i64 (c1 x), .int .i64 (c2 x), .int .i64 (c3 x), .int .i64 (c4 x)], .bool true]
abbrev cvN : AV := .tuple [.agg [.int .i64 0, .int .i64 0, .int .i64 0, .int .i64 0, .int .i64 0], .bool false]
theorem cv_nil (s r c : Int) : Comes tCv nolv 18 [.qzz, .agg [.int .i64 s, .int .i64 r, .int .i64 c]] [] (.ret cvN []) := by unfold Comes; kernel_rfl
theorem cv_vec (L : List (List CV)) (s r c : Int) (x : List CV) (ok b : Bool) : Comes tCv (lvV L s r c x ok b) 18 [.vec 0 L.length, .agg [.int .i64 s, .int .i64 r, .int .i64 c]] [vS L]
  (.chk (eqSt (sV L L.length 0 s r c) (sV L L.length 0 s r c)) (.chk ok (.br b (.ret (cvV x) [vS L]) (.ret cvN [vS L])))) := by unfold Comes; kernel_rfl
def eCov : Ent := fun args pre => match args, pre with
  | [.qzz, .agg [.int .i64 s, .int .i64 r, .int .i64 c]], [] => .ret cvN []
  | [.vec j n, .agg [.int .i64 s, .int .i64 r, .int .i64 c]], [.vecR sh L ty] => .chk (Nat.beq j 0 && shEq sh shS && Nat.beq ty 27) (.chk (Nat.beq n L.length) (.chk (decide (L.length ≤ 1000)) (.br (decide (covN L s r c < L.length)) (.ret (cvV (Sx.rowAt L (covN L s r c))) [.vecR sh L ty]) (.ret cvN [.vecR sh L ty]))))
  | _, _ => .fail
theorem eCov_ok : EntOK Tryz.prog 18 eCov := fun args pre => by
  unfold eCov
  split
  · exact qyx (pre := []) (post := []) tCv_ok host (cv_nil _ _ _) qyz
  · rename_i j n s r c sh L ty
    refine ⟨fun g0 => ⟨fun g1 => ⟨fun g2 => ?_, fun _ => trivial⟩, fun _ => trivial⟩, fun _ => trivial⟩
    simp only [Bool.and_eq_true, beqT] at g0
    obtain ⟨⟨rfl, g⟩, rfl⟩ := g0
    obtain rfl := shEq_of g
    obtain rfl := beqT.1 g1
    have key := loopVV (L := L) (s := s) (r := r) (c := c) (of_decide_eq_true g2)
    refine ⟨fun hb => ?_, fun hb => ?_⟩
    · refine qyx (pre := [vS L]) (post := [vS L]) tCv_ok host ((cv_vec L s r c (Sx.rowAt L (covN L s r c)) true true).trans ?_) (lvOne_ok (x := loopV) Tryz.func18 (by kernel_rfl) fun K t => eAt_ok (a := .chk true (.br true (.out .ret (sVR L (Sx.rowAt L (covN L s r c)))) (.out (.exit 0) (sVX L)))) ⟨fun _ => ⟨fun _ => key.1 hb, fun e => by cases e⟩, fun _ => trivial⟩ K t)
      rw [chkT (qzt _), chkT rfl, brT rfl]; rfl
    · refine qyx (pre := [vS L]) (post := [vS L]) tCv_ok host ((cv_vec L s r c (Sx.rowAt L (covN L s r c)) true false).trans ?_) (lvOne_ok (x := loopV) Tryz.func18 (by kernel_rfl) fun K t => eAt_ok (a := .chk true (.br false (.out .ret (sVR L (Sx.rowAt L (covN L s r c)))) (.out (.exit 0) (sVX L)))) ⟨fun _ => ⟨(fun e => by cases e), fun _ => key.2 hb⟩, fun _ => trivial⟩ K t)
      rw [chkT (qzt _), chkT rfl, brF rfl]; rfl
  · trivial
end Go.Proofs.YtphhepnldndbhaaGreatDoor
namespace Go.Proofs.YtphhepnldndbhaaGreatDoor
open Go Sx
def inA (x : List CV) (k : List Int) : Prop := ∃ i j : Nat, i < (c3 x).toNat ∧ j < (c4 x).toNat ∧ k = keyI (c0 x) (c1 x) (c2 x) (i : Int) (j : Int)
theorem mem_addR {s r c : Int} {i : Nat} {ks : List (List Int)} {k : List Int} : ∀ W, k ∈ addR s r c i ks W ↔ k ∈ ks ∨ ∃ j : Nat, j < W ∧ k = keyI s r c (i : Int) (j : Int)
  | 0 => ⟨.inl, fun h => h.elim id fun ⟨j, hj, _⟩ => absurd hj (Nat.not_lt_zero j)⟩
  | W + 1 => by
    rw [addR, mem_addK, mem_addR W]
    constructor
    · rintro ((h | ⟨j, hj, e⟩) | e)
      · exact .inl h
      · exact .inr ⟨j, by omega, e⟩
      · exact .inr ⟨W, by omega, e⟩
    · rintro (h | ⟨j, hj, e⟩)
      · exact .inl (.inl h)
      · by_cases h : j = W
        · exact .inr (by rw [← h]; exact e)
        · exact .inl (.inr ⟨j, by omega, e⟩)
theorem mem_addA {s r c : Int} {W : Nat} {ks : List (List Int)} {k : List Int} : ∀ H, k ∈ addA s r c W ks H ↔ k ∈ ks ∨ ∃ i j : Nat, i < H ∧ j < W ∧ k = keyI s r c (i : Int) (j : Int)
  | 0 => ⟨.inl, fun h => h.elim id fun ⟨i, j, hi, _⟩ => absurd hi (Nat.not_lt_zero i)⟩
  | H + 1 => by
    rw [addA, mem_addR, mem_addA H]
    constructor
    · rintro ((h | ⟨i, j, hi, hj, e⟩) | ⟨j, hj, e⟩)
      · exact .inl h
      · exact .inr ⟨i, j, by omega, hj, e⟩
      · exact .inr ⟨H, j, by omega, hj, e⟩
    · rintro (h | ⟨i, j, hi, hj, e⟩)
      · exact .inl (.inl h)
      · by_cases h : i = H
        · exact .inr ⟨j, hj, by rw [← h]; exact e⟩
        · exact .inl (.inr ⟨i, j, by omega, hj, e⟩)
theorem anyN_false {f : Nat → Bool} {n : Nat} (h : anyN f n = false) {j : Nat} (hj : j < n) : f j = false := anyN_none h j hj
theorem hit_none {ks : List (List Int)} {x : List CV} (h : hitA ks (c0 x) (c1 x) (c2 x) (c3 x).toNat (c4 x).toNat (c0 x) (c1 x) (c2 x) = false) {k : List Int} (hk : inA x k) (hm : k ∈ ks) : k = keyR x := by
  obtain ⟨i, j, hi, hj, rfl⟩ := hk
  have h1 := anyN_false (anyN_false h hi) hj
  unfold hitI at h1
  rw [memK_iff.2 hm, Bool.true_and, Bool.not_eq_false'] at h1
  unfold ownB at h1
  simp only [Bool.and_eq_true, beq_iff_eq, Bool.and_true] at h1
  obtain ⟨_, e2, e3⟩ := h1
  unfold keyI keyR
  rw [e2, e3]
theorem rwL_nat (L : List (List CV)) (j : Nat) : rwL L (j : Int) = Sx.rowAt L j := by unfold rwL; rw [Int.toNat_natCast]
structure Good (L : List (List CV)) (ks0 : List (List Int)) (j : Nat) (S : PlS) : Prop where
  old : ∀ k ∈ ks0, k ∈ S.ks
  rows : ∀ y ∈ S.P, ∃ i, i < j ∧ y = spL1 L (i : Int) ∧ arL L (i : Int) = true
  taken : ∀ y ∈ S.P, ∀ k, inA y k → k ∈ S.ks
  free : ∀ y ∈ S.P, ∀ k, inA y k → k ∈ ks0 → k = keyR y
  apart : S.P.Pairwise fun x y => ∀ k, inA x k → ¬ inA y k
theorem good_all {L : List (List CV)} {ks0 : List (List Int)} (hs : L.Pairwise ltR) (hk : ∀ i, i < L.length → keyR (Sx.rowAt L i) ∈ ks0) : ∀ j, j ≤ L.length → Good L ks0 j (plN L ks0 j)
  | 0, _ => ⟨fun k h => h, (fun y h => nomatch h), (fun y h => nomatch h), (fun y h => nomatch h), List.Pairwise.nil⟩
  | j + 1, hj => by
    have ih := good_all hs hk j (by omega)
    rw [plN]
    have keep : ∀ B, Good L ks0 (j + 1) ⟨(plN L ks0 j).P, B, (plN L ks0 j).ks⟩ := fun B => ⟨ih.old, fun y h => by
      obtain ⟨i, hi, e⟩ := ih.rows y h
      exact ⟨i, by omega, e⟩, ih.taken, ih.free, ih.apart⟩
    cases ha : arL L (j : Int) with
    | false => exact keep _
    | true =>
      rw [bcF (b := !true) rfl]
      cases hh : hitL L (plN L ks0 j).ks (j : Int) with
      | true => exact keep _
      | false =>
        rw [bcF (b := false) rfl]
        unfold hitL at hh
        have hn : ∀ k, inA (rwL L (j : Int)) k → k ∈ (plN L ks0 j).ks → k = keyR (rwL L (j : Int)) := fun k h1 h2 => hit_none hh h1 h2
        have eA : ∀ k, inA (spL1 L (j : Int)) k ↔ inA (rwL L (j : Int)) k := fun k => Iff.rfl
        have add : ∀ k, k ∈ addL L (plN L ks0 j).ks (j : Int) ↔ k ∈ (plN L ks0 j).ks ∨ inA (rwL L (j : Int)) k := fun k => mem_addA _
        refine ⟨fun k h => (add k).2 (.inl (ih.old k h)), fun y h => ?_, fun y h k h1 => ?_, fun y h k h1 h2 => ?_, ?_⟩
        · rcases List.mem_append.1 h with h | h
          · obtain ⟨i, hi, e⟩ := ih.rows y h
            exact ⟨i, by omega, e⟩
          · exact ⟨j, by omega, List.mem_singleton.1 h, ha⟩
        · rcases List.mem_append.1 h with h | h
          · exact (add k).2 (.inl (ih.taken y h k h1))
          · rw [List.mem_singleton.1 h] at h1
            exact (add k).2 (.inr h1)
        · rcases List.mem_append.1 h with h | h
          · exact ih.free y h k h1 h2
          · rw [List.mem_singleton.1 h] at h1 ⊢
            exact hn k h1 (ih.old k h2)
        · show (_ ++ [_]).Pairwise _
          rw [List.pairwise_append]
          refine ⟨ih.apart, List.pairwise_singleton _ _, fun x hx y hy k h1 h2 => ?_⟩
          rw [List.mem_singleton.1 hy] at h2
          have e := hn k h2 (ih.taken x hx k h1)
          obtain ⟨i, hi, ex, _⟩ := ih.rows x hx
          have hk0 : k ∈ ks0 := by rw [e, rwL_nat]; exact hk j (by omega)
          have e2 := ih.free x hx k h1 hk0
          rw [e2, ex] at e
          have e : keyR (rwL L (i : Int)) = keyR (rwL L (j : Int)) := e
          rw [rwL_nat, rwL_nat] at e
          have lt := ltR_iff.1 (pw_at hs (show j < L.length by omega) hi)
          simp only [keyR, List.cons.injEq, and_true] at e
          omega
def tAk : Tab := [(88, eRsh), (90, eAlk), (40, eInp)]
theorem tAk_ok : TabOK Tryz.prog tAk := .cons eRsh_ok (.cons eAlk_ok (.cons eInp_ok .nil))
abbrev o6 : PObj := .raw (.cells [.int .i64 0, .int .i64 0, .int .i64 0, .int .i64 0, .int .i64 2, .int .i64 1] 25)
abbrev akX : List (List CV) := [mkC 0 0, mkC 2 1]
theorem ak_b : Comes tAk nolv 11 [.slice 0 0 2 2] [o6] (.ret bkV [o6, oSh (.vec 2 2) .qzz, vC akX]) := by unfold Comes; kernel_rfl
abbrev o10 (a b c d e f g h i j : Int) : PObj := .raw (.cells [.int .i64 a, .int .i64 b, .int .i64 c, .int .i64 d, .int .i64 e, .int .i64 f, .int .i64 g, .int .i64 h, .int .i64 i, .int .i64 j] 27)
theorem ak_4 : Comes tAk nolv 14 [.agg [.qzz, .qzz, .qzz, .qzz], .qzz] [] (.ret (.tuple [.qzz, .qzz, .int .i64 96]) []) := by unfold Comes; kernel_rfl
theorem ak_3 : Comes tAk nolv 14 [bkW, .slice 1 0 2 2] [oSh (.vec 2 2) .qzz, o10 0 2 1 9 9 0 0 0 2 2, vC akX] (.ret (.tuple [.qzz, .qzz, .int .i64 140]) [oSh (.vec 2 2) .qzz, o10 0 2 1 9 9 0 0 0 2 2, vC akX]) := by unfold Comes; kernel_rfl
noncomputable def eInC (e9 e0 : Ent) : Ent := fun args pre => match pre with
  | _ :: .raw (.cells (_ :: _ :: _ :: .int _ h :: _) _) :: _ => cond (h == 9) (e9 args pre) (e0 args pre)
  | _ => .fail
theorem eInC_ok {e9 e0 : Ent} (h9 : EntOK Tryz.prog 47 e9) (h0 : EntOK Tryz.prog 47 e0) : EntOK Tryz.prog 47 (eInC e9 e0) := fun args pre => by
  unfold eInC
  split
  · rename_i hh _ _ _
    cases hh == 9 with
    | true => exact h9 args _
    | false => exact h0 args _
  · trivial
def akK : List (List Int) := [[0, 0, 0], [0, 2, 1]]
def akL : List (List CV) := [mkS 0 0 0 2 2, mkS 0 2 1 9 9]
def akW : List (List CV) := [mkS 0 0 0 3 2, mkS 0 2 1 9 9]
noncomputable def tAk1 : Tab := (47, eInC (eIn (addL akL akK 0) [] 0 2 1 9 9 0 2 1 9 9) (eIn akK [] 0 0 0 2 2 0 0 0 2 2)) :: tAk
theorem tAk1_ok : TabOK Tryz.prog tAk1 := .cons (eInC_ok (eIn_ok _ _ _ _ _ _ _ _ _ _ _ _) (eIn_ok _ _ _ _ _ _ _ _ _ _ _ _)) tAk_ok
noncomputable def tAk2 : Tab := (47, eInC (eIn akK [mkA 0 0 0] 0 2 1 9 9 0 2 1 9 9) (eIn akK [] 0 0 0 3 2 0 0 0 3 2)) :: tAk
theorem tAk2_ok : TabOK Tryz.prog tAk2 := .cons (eInC_ok (eIn_ok _ _ _ _ _ _ _ _ _ _ _ _) (eIn_ok _ _ _ _ _ _ _ _ _ _ _ _)) tAk_ok
theorem ak_1 : Comes tAk1 nolv 14 [bkW, .slice 1 0 2 2] [oSh (.vec 2 2) .qzz, o10 0 0 0 2 2 0 2 1 9 9, vC akX] (.chk (ckIn akL akK 0) (.chk (ckIm akL akK 0) (.chk (ckIn akL (addL akL akK 0) 1) (.chk (ckIm akL (addL akL akK 0) 1) (.ret (plV (.vec 3 2) .qzz) [oSh (.vec 2 2) .qzz, o10 0 0 0 2 2 0 2 1 9 9, vC akX, vS [mkS 0 0 0 2 2, mkS 0 2 1 9 9]]))))) := by unfold Comes; kernel_rfl
theorem ak_2 : Comes tAk2 nolv 14 [bkW, .slice 1 0 2 2] [oSh (.vec 2 2) .qzz, o10 0 0 0 3 2 0 2 1 9 9, vC akX] (.chk (ckIn akW akK 0) (.chk (ckIv akW [mkA 0 0 0] akK 1) (.chk (ckIm akW akK 1) (.ret (plV (.vec 3 1) (.vec 4 1)) [oSh (.vec 2 2) .qzz, o10 0 0 0 3 2 0 2 1 9 9, vC akX, vS [mkS 0 2 1 9 9], vA [mkA 0 0 0]])))) := by unfold Comes; kernel_rfl
end Go.Proofs.YtphhepnldndbhaaGreatDoor
namespace Go.Proofs.YtphhepnldndbhaaGreatDoor
open Go Sx
open Classical in
noncomputable def eOne (f : FuncId) (a : List AV) (p : List PObj) (r : AV) (q : List PObj) : Ent := fun args pre => .chk (decide ((args = a ∧ pre = p) ∧ Meets Tryz.prog f a (p.map PObj.toA) r (q.map PObj.toA))) (.ret r q)
open Classical in
theorem eOne_ok {f : FuncId} (a : List AV) (p : List PObj) (r : AV) (q : List PObj) : EntOK Tryz.prog f (eOne f a p r q) := fun args pre => by
  unfold eOne
  refine ⟨fun g => ?_, fun _ => trivial⟩
  obtain ⟨⟨rfl, rfl⟩, h⟩ := of_decide_eq_true g
  exact h
open Classical in
noncomputable def ckOne (f : FuncId) (a : List AV) (p : List PObj) (r : AV) (q : List PObj) : Bool := decide ((a = a ∧ p = p) ∧ Meets Tryz.prog f a (p.map PObj.toA) r (q.map PObj.toA))
abbrev fB : FuncId := 11
abbrev fP : FuncId := 14
abbrev oK : PObj := oSh (.vec 2 2) .qzz
abbrev n4 : AV := .agg [.qzz, .qzz, .qzz, .qzz]
noncomputable def eAkP : Ent := fun args pre => match pre with
  | _ :: .raw (.cells (_ :: _ :: _ :: .int _ h :: _) _) :: _ => cond (h == 9) (eOne fP [bkW, .slice 1 0 2 2] [oK, o10 0 2 1 9 9 0 0 0 2 2, vC akX] (.tuple [.qzz, .qzz, .int .i64 140]) [oK, o10 0 2 1 9 9 0 0 0 2 2, vC akX] args pre)
    (cond (h == 3) (eOne fP [bkW, .slice 1 0 2 2] [oK, o10 0 0 0 3 2 0 2 1 9 9, vC akX] (plV (.vec 3 1) (.vec 4 1)) [oK, o10 0 0 0 3 2 0 2 1 9 9, vC akX, vS [mkS 0 2 1 9 9], vA [mkA 0 0 0]] args pre)
      (eOne fP [bkW, .slice 1 0 2 2] [oK, o10 0 0 0 2 2 0 2 1 9 9, vC akX] (plV (.vec 3 2) .qzz) [oK, o10 0 0 0 2 2 0 2 1 9 9, vC akX, vS [mkS 0 0 0 2 2, mkS 0 2 1 9 9]] args pre))
  | [] => eOne fP [n4, .qzz] [] (.tuple [.qzz, .qzz, .int .i64 96]) [] args pre
  | _ => .fail
theorem eAkP_ok : EntOK Tryz.prog fP eAkP := fun args pre => by
  unfold eAkP
  split
  · rename_i hh _ _ _
    cases hh == 9 with
    | true => exact eOne_ok _ _ _ _ args _
    | false => cases hh == 3 with
      | true => exact eOne_ok _ _ _ _ args _
      | false => exact eOne_ok _ _ _ _ args _
  · exact eOne_ok _ _ _ _ args _
  · trivial
noncomputable def tAkA : Tab := [(fB, eOne fB [.slice 0 0 2 2] [o6] bkV [o6, oK, vC akX]), (fP, eAkP), (18, eCov)]
theorem tAkA_ok : TabOK Tryz.prog tAkA := .cons (eOne_ok _ _ _ _) (.cons eAkP_ok (.cons eCov_ok .nil))
theorem ak_run : Comes tAkA nolv 10 [] [] (.chk (ckOne fB [.slice 0 0 2 2] [o6] bkV [o6, oK, vC akX])
  (.chk (ckOne fP [bkW, .slice 1 0 2 2] [oK, o10 0 0 0 2 2 0 2 1 9 9, vC akX] (plV (.vec 3 2) .qzz) [oK, o10 0 0 0 2 2 0 2 1 9 9, vC akX, vS [mkS 0 0 0 2 2, mkS 0 2 1 9 9]])
  (.chk (ckOne fP [bkW, .slice 1 0 2 2] [oK, o10 0 0 0 3 2 0 2 1 9 9, vC akX] (plV (.vec 3 1) (.vec 4 1)) [oK, o10 0 0 0 3 2 0 2 1 9 9, vC akX, vS [mkS 0 2 1 9 9], vA [mkA 0 0 0]])
  (.chk (ckOne fP [bkW, .slice 1 0 2 2] [oK, o10 0 2 1 9 9 0 0 0 2 2, vC akX] (.tuple [.qzz, .qzz, .int .i64 140]) [oK, o10 0 2 1 9 9 0 0 0 2 2, vC akX])
  (.chk (ckOne fP [n4, .qzz] [] (.tuple [.qzz, .qzz, .int .i64 96]) []) (.ret (.bool true) [])))))) := by unfold Comes; kernel_rfl
end Go.Proofs.YtphhepnldndbhaaGreatDoor
namespace Go.Proofs.YtphhepnldndbhaaGreatDoor
open Go Sx
open Classical in
theorem ckIn_lit {L : List (List CV)} {ks : List (List Int)} {i : Int} (h : (0 ≤ c3 (rwL L i) ∧ c3 (rwL L i) ≤ 1000) ∧ 0 ≤ c4 (rwL L i) ∧ c4 (rwL L i) ≤ 1000) : ckIn L ks i = true ∧ ckIm L ks i = true := by
  unfold ckIn ckIm
  exact ⟨decide_eq_true ⟨⟨rfl, rfl⟩, h⟩, decide_eq_true ⟨⟨rfl, rfl⟩, h⟩⟩
open Classical in
theorem ckIv_lit {L B : List (List CV)} {ks : List (List Int)} {i : Int} (h : (0 ≤ c3 (rwL L i) ∧ c3 (rwL L i) ≤ 1000) ∧ 0 ≤ c4 (rwL L i) ∧ c4 (rwL L i) ≤ 1000) (hB : B.length ≤ 1000) : ckIv L B ks i = true := by
  unfold ckIv
  exact decide_eq_true ⟨⟨rfl, rfl⟩, h.1, h.2, hB⟩
theorem akL0 : (0 ≤ c3 (rwL akL 0) ∧ c3 (rwL akL 0) ≤ 1000) ∧ 0 ≤ c4 (rwL akL 0) ∧ c4 (rwL akL 0) ≤ 1000 := by
  show (0 ≤ (2 : Int) ∧ (2 : Int) ≤ 1000) ∧ 0 ≤ (2 : Int) ∧ (2 : Int) ≤ 1000; omega
theorem akL1 : (0 ≤ c3 (rwL akL 1) ∧ c3 (rwL akL 1) ≤ 1000) ∧ 0 ≤ c4 (rwL akL 1) ∧ c4 (rwL akL 1) ≤ 1000 := by
  show (0 ≤ (9 : Int) ∧ (9 : Int) ≤ 1000) ∧ 0 ≤ (9 : Int) ∧ (9 : Int) ≤ 1000; omega
theorem akW0 : (0 ≤ c3 (rwL akW 0) ∧ c3 (rwL akW 0) ≤ 1000) ∧ 0 ≤ c4 (rwL akW 0) ∧ c4 (rwL akW 0) ≤ 1000 := by
  show (0 ≤ (3 : Int) ∧ (3 : Int) ≤ 1000) ∧ 0 ≤ (2 : Int) ∧ (2 : Int) ≤ 1000; omega
theorem akW1 : (0 ≤ c3 (rwL akW 1) ∧ c3 (rwL akW 1) ≤ 1000) ∧ 0 ≤ c4 (rwL akW 1) ∧ c4 (rwL akW 1) ≤ 1000 := by
  show (0 ≤ (9 : Int) ∧ (9 : Int) ≤ 1000) ∧ 0 ≤ (9 : Int) ∧ (9 : Int) ≤ 1000; omega
open Classical in
theorem ckOne_ok {f : FuncId} {a : List AV} {p : List PObj} {r : AV} {q : List PObj} (h : Meets Tryz.prog f a (p.map PObj.toA) r (q.map PObj.toA)) : ckOne f a p r q = true := by
  unfold ckOne
  exact decide_eq_true ⟨⟨rfl, rfl⟩, h⟩
theorem awake_meets : Meets Tryz.prog 10 [] [] (.bool true) [] := by
  have h1 : ckOne fB [.slice 0 0 2 2] [o6] bkV [o6, oK, vC akX] = true := ckOne_ok (qyx (pre := [o6]) (post := [o6, oK, vC akX]) tAk_ok host ak_b qyz)
  have h2 := ckOne_ok (qyx (f := fP) (pre := [oK, o10 0 0 0 2 2 0 2 1 9 9, vC akX]) (post := [oK, o10 0 0 0 2 2 0 2 1 9 9, vC akX, vS [mkS 0 0 0 2 2, mkS 0 2 1 9 9]]) tAk1_ok host (ak_1.trans (by rw [chkT (ckIn_lit akL0).1, chkT (ckIn_lit akL0).2, chkT (ckIn_lit akL1).1, chkT (ckIn_lit akL1).2]; rfl)) qyz)
  have h3 := ckOne_ok (qyx (f := fP) (pre := [oK, o10 0 0 0 3 2 0 2 1 9 9, vC akX]) (post := [oK, o10 0 0 0 3 2 0 2 1 9 9, vC akX, vS [mkS 0 2 1 9 9], vA [mkA 0 0 0]]) tAk2_ok host (ak_2.trans (by rw [chkT (ckIn_lit akW0).1, chkT (ckIv_lit akW1 (by decide)), chkT (ckIn_lit akW1).2]; rfl)) qyz)
  have h4 := ckOne_ok (qyx (f := fP) (pre := [oK, o10 0 2 1 9 9 0 0 0 2 2, vC akX]) (post := [oK, o10 0 2 1 9 9 0 0 0 2 2, vC akX]) tAk_ok host ak_3 qyz)
  have h5 := ckOne_ok (qyx (f := fP) (pre := []) (post := []) tAk_ok host ak_4 qyz)
  refine qyx (pre := []) (post := []) tAkA_ok host (ak_run.trans ?_) qyz
  rw [chkT h1, chkT h2, chkT h3, chkT h4, chkT h5]; rfl
def eAwk : Ent := fun args pre => match args, pre with
  | [], [] => .ret (.bool true) []
  | _, _ => .fail
theorem eAwk_ok : EntOK Tryz.prog 10 eAwk := fun args pre => by
  unfold eAwk
  split
  · exact awake_meets
  · trivial
end Go.Proofs.YtphhepnldndbhaaGreatDoor
namespace Go.Proofs.YtphhepnldndbhaaGreatDoor
open Go Sx
end Go.Proofs.YtphhepnldndbhaaGreatDoor
namespace Go.Proofs.YtphhepnldndbhaaGreatDoor
open Go Sx
section
variable (R Z P B : List (List CV)) (a z : Nat) (s r c : Int)
end
end Go.Proofs.YtphhepnldndbhaaGreatDoor
namespace Go.Proofs.YtphhepnldndbhaaGreatDoor
open Go Sx
end Go.Proofs.YtphhepnldndbhaaGreatDoor
namespace Go.Proofs.YtphhepnldndbhaaGreatDoor
open Go Sx
section
variable (R Z P : List (List CV)) (n : Nat) (i m s r c u0 u1 u2 u3 u4 : Int) (b : Bool)
end
section
variable (R Z P : List (List CV)) (n : Nat) (i m s r c u0 u1 u2 u3 u4 : Int) (b : Bool)
end
end Go.Proofs.YtphhepnldndbhaaGreatDoor
namespace Go.Proofs.YtphhepnldndbhaaGreatDoor
open Go Sx
section
variable {R Z P : List (List CV)} {s r c u0 u1 u2 u3 u4 : Int} {b : Bool}
end
end Go.Proofs.YtphhepnldndbhaaGreatDoor
namespace Go.Proofs.YtphhepnldndbhaaGreatDoor
open Go Sx
def Fits (y : List CV) : Prop := (0 ≤ c0 y ∧ c0 y < 2) ∧ (0 ≤ c1 y ∧ c1 y + c3 y ≤ 200) ∧ (0 ≤ c2 y ∧ c2 y + c4 y ≤ 52) ∧ (1 ≤ c3 y ∧ c3 y ≤ 5) ∧ 1 ≤ c4 y ∧ c4 y ≤ 5
def Within (y : List CV) (s r c : Int) : Prop := c0 y = s ∧ (c1 y ≤ r ∧ r < c1 y + c3 y) ∧ c2 y ≤ c ∧ c < c2 y + c4 y
theorem qxy {a : Int} (h1 : -1000000 ≤ a) (h2 : a ≤ 1000000) : w64 a = a := w64_of (inI_iff.2 ⟨by omega, by omega⟩)
section
variable {R Z : List (List CV)} {a z : Nat}
end
end Go.Proofs.YtphhepnldndbhaaGreatDoor
