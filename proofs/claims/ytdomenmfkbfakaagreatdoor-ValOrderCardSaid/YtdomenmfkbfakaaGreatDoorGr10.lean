/- Layer 3: the order of values (val.Compare) as an entry. -/
import Derived.Test.YtdomenmfkbfakaaGreatDoorGr09
set_option linter.unusedVariables false
set_option linter.unusedSimpArgs false
set_option linter.unusedSectionVars false
namespace Go.Proofs.YtdomenmfkbfakaaGreatDoor
open Go Sx
section
variable (tx : List UInt8 → Bool) (gi : Int → Int → Int) (g : Int → Int → Int → List UInt8 → Bool → Int → Int → Int → Int → List UInt8 → Bool → Int → Int) (k m e : Int) (s : List UInt8) (b : Bool) (r f k' m' e' : Int) (s' : List UInt8) (b' : Bool) (r' f' : Int) (h w h' w' : Int) (a a' : Nat) (A B : List (List CV))
open Classical in
theorem cp_pa (hk : k = 0 ∨ k = 1 ∨ k = 2 ∨ k = 3 ∨ k = 4) : Comes (tCp tx gi) nolv 28 [vL k m e s b r h w .nilslice f, vL 5 m' e' s' b' r' h' w' (.dsl 0 a) f'] [fR A]
  (.chk (decide (s.length ≤ 1000000)) (.chk (rightF tx k m e s b r h w f) (.chk (decide (okRows a A)) (.chk (rightA tx m' e' s' b' r' h' w' f' a A) (iT1 A (gi k 5)))))) := by rcases hk with rfl | rfl | rfl | rfl | rfl <;> (unfold Comes; kernel_rfl)
theorem cp_pp : Comes (tCo tx g) nolv 28 [vL k m e s b r h w .nilslice f, vL k' m' e' s' b' r' h' w' .nilslice f'] []
  (.chk (decide (0 ≤ k ∧ k ≤ 4)) (.chk (decide (s.length ≤ 1000000)) (.chk (rightF tx k m e s b r h w f) (.chk (decide (0 ≤ k' ∧ k' ≤ 4)) (.chk (decide (s'.length ≤ 1000000)) (.chk (rightF tx k' m' e' s' b' r' h' w' f') (.chk (decide (0 ≤ k ∧ k ≤ 4)) (.chk (decide (s.length < 1000000)) (iT (g k m e s b r k' m' e' s' b' r')))))))))) := by unfold Comes; kernel_rfl
end
/-- The order of two arrays. -/
def agF (h w : Int) (a : Nat) (A : List (List CV)) (h' w' : Int) (B : List (List CV)) : Int := bcond (cmI h h' != 0) (cmI h h') (bcond (cmI w w' != 0) (cmI w w') (ogF A B a 0))
theorem cmI_zero {x y : Int} (h : (cmI x y != 0) = false) : x = y := by
  unfold cmI at h
  by_cases h1 : x < y
  · rw [decide_eq_true h1] at h; cases h
  · rw [decide_eq_false h1] at h
    by_cases h2 : x > y
    · rw [decide_eq_true h2] at h; cases h
    · omega
theorem right_N {tx : List UInt8 → Bool} {m e : Int} {s : List UInt8} {b : Bool} {r h w f : Int} {a : Nat} {A : List (List CV)} (c : rightA tx m e s b r h w f a A = true) : (a : Int) = h * w ∧ a < 1000000000 := by
  unfold rightA gridB at c
  rw [Bool.and_eq_true, Bool.and_eq_true] at c
  obtain ⟨h1, h2, h3, h4⟩ := of_decide_eq_true c.1.1
  have := le_400 h1 h3
  exact ⟨h4, by omega⟩
/-- What the law runs on, not looked into: which values are right, their order, what is made of raw numbers. -/
structure CmpF where
  rF : Int → Int → Int → List UInt8 → Bool → Int → Int → Int → Int → Bool
  rA : Int → Int → List UInt8 → Bool → Int → Int → Int → Int → Nat → List (List CV) → Bool
  rl : Nat → List (List CV) → Bool
  g0 : Int → Int → Int → List UInt8 → Bool → Int → Int → Int → Int → List UInt8 → Bool → Int → Int
  gi : Int → Int → Int
  ga : Int → Int → Nat → List (List CV) → Int → Int → List (List CV) → Int
  sz : Int → Int
  na : Int → Int → Nat
  al : Nat → List (List CV) → Nat → List (List CV)
  ok : Nat → List (List CV) → Bool
open Classical in
noncomputable def CmpF.std : CmpF := { rF := rightF isTx, rA := rightA isTx, rl := fun n A => decide (RigL n A), g0 := ordF, gi := cmI, ga := agF, sz := sz5, na := nA, al := arL valR, ok := fun a R => decide (okW a R) }
def eCmp2 (C : CmpF) (o o' : PObj) : List AV → Ans
  | [.agg [.int .i64 k, .int .i64 m, .int .i64 e, .str s, .bool b, .int .i64 r, .int .i64 h, .int .i64 w, l, .int .i64 f, .nilslice, .nilslice], .agg [.int .i64 k', .int .i64 m', .int .i64 e', .str s', .bool b', .int .i64 r', .int .i64 h', .int .i64 w', l', .int .i64 f', .nilslice, .nilslice]] =>
    match rowsIn 0 l o, rowsIn 1 l' o' with
    | some (a, A), some (a', B) => .chk (k == 5) (.chk (k' == 5) (.chk (C.rl a A) (.chk (C.rA m e s b r h w f a A) (.chk (C.rl a' B) (.chk (C.rA m' e' s' b' r' h' w' f' a' B) (.ret (.int .i64 (C.ga h w a A h' w' B)) [o, o']))))))
    | _, _ => .fail
  | _ => .fail
def eCmp1 (C : CmpF) (o : PObj) : List AV → Ans
  | [.agg [.int .i64 k, .int .i64 m, .int .i64 e, .str s, .bool b, .int .i64 r, .int .i64 h, .int .i64 w, l, .int .i64 f, .nilslice, .nilslice], .agg [.int .i64 k', .int .i64 m', .int .i64 e', .str s', .bool b', .int .i64 r', .int .i64 h', .int .i64 w', l', .int .i64 f', .nilslice, .nilslice]] =>
    match rowsIn 0 l o with
    | some (a, A) => match l' with
      | .nilslice => .chk (k == 5) (.chk (C.rl a A) (.chk (C.rA m e s b r h w f a A) (.chk (decide (0 ≤ k' ∧ k' ≤ 4)) (.chk (decide (s'.length ≤ 1000000)) (.chk (C.rF k' m' e' s' b' r' h' w' f') (.ret (.int .i64 (C.gi 5 k')) [o]))))))
      | _ => match rowsIn 0 l' o with
        | some (a', _) => .chk (k == 5) (.chk (sameF k' m' e' s' b' r' h' w' f' k m e s b r h w f) (.chk (Nat.beq a' a) (.chk (C.rl a A) (.chk (C.rA m e s b r h w f a A) (.ret (.int .i64 (C.ga h w a A h w A)) [o])))))
        | none => .fail
    | none => match rowsIn 0 l' o with
      | some (a, A) => match l with
        | .nilslice => .chk (k' == 5) (.chk (decide (0 ≤ k ∧ k ≤ 4)) (.chk (decide (s.length ≤ 1000000)) (.chk (C.rF k m e s b r h w f) (.chk (C.rl a A) (.chk (C.rA m' e' s' b' r' h' w' f' a A) (.ret (.int .i64 (C.gi k 5)) [o]))))))
        | _ => .fail
      | none => .fail
  | _ => .fail
def eCmp0 (C : CmpF) : List AV → Ans
  | [.agg [.int .i64 k, .int .i64 m, .int .i64 e, .str s, .bool b, .int .i64 r, .int .i64 h, .int .i64 w, .nilslice, .int .i64 f, .nilslice, .nilslice], .agg [.int .i64 k', .int .i64 m', .int .i64 e', .str s', .bool b', .int .i64 r', .int .i64 h', .int .i64 w', .nilslice, .int .i64 f', .nilslice, .nilslice]] =>
    .chk (decide (0 ≤ k ∧ k ≤ 4)) (.chk (decide (s.length < 1000000)) (.chk (C.rF k m e s b r h w f) (.chk (decide (0 ≤ k' ∧ k' ≤ 4)) (.chk (decide (s'.length ≤ 1000000)) (.chk (C.rF k' m' e' s' b' r' h' w' f') (.ret (.int .i64 (C.g0 k m e s b r k' m' e' s' b' r')) []))))))
  | _ => .fail
/-- The order of values that are right. -/
def eCmp (C : CmpF) : Ent := fun args pre => match pre with
  | [] => eCmp0 C args
  | [o] => eCmp1 C o args
  | [o, o'] => eCmp2 C o o' args
  | _ => .fail
open Classical in
theorem cmp_aa {m e : Int} {s : List UInt8} {b : Bool} {r h w f m' e' : Int} {s' : List UInt8} {b' : Bool} {r' h' w' f' : Int} {a a' : Nat} {A B : List (List CV)} (hA : RigL a A) (gA : rightA isTx m e s b r h w f a A = true) (hB : RigL a' B) (gB : rightA isTx m' e' s' b' r' h' w' f' a' B = true) :
    Meets Tryz.prog 28 [vL 5 m e s b r h w (.dsl 0 a) f, vL 5 m' e' s' b' r' h' w' (.dsl 1 a') f'] [.flatR false shV A, .flatR false shV B] (.int .i64 (agF h w a A h' w' B)) [.flatR false shV A, .flatR false shV B] := by
  have T : TabOK Tryz.prog (tCp isTx cmI) := .cons (eRigC_ok eIsT_ok) (.cons eCm_ok .nil)
  obtain ⟨n1, n2⟩ := right_N gA
  obtain ⟨n3, n4⟩ := right_N gB
  have o1 : okRows a A := ⟨hA.1, n2, fun j hj => plR_of (hA.2 j hj)⟩
  have o2 : okRows a' B := ⟨hB.1, n4, fun j hj => plR_of (hB.2 j hj)⟩
  have pre0 : ∀ X : Ans, (Ans.chk (decide (okRows a A)) (.chk (rightA isTx m e s b r h w f a A) (.chk (decide (okRows a' B)) (.chk (rightA isTx m' e' s' b' r' h' w' f' a' B) X)))).run pure2 = X.run pure2 := fun X => by
    rw [chkT (decide_eq_true o1), chkT gA, chkT (decide_eq_true o2), chkT gB]
  by_cases hs : h = h' ∧ w = w'
  · obtain ⟨rfl, rfl⟩ := hs
    obtain rfl : a = a' := by omega
    refine meets_ent (pre := [fR A, fR B]) (post := [fR A, fR B]) T host ((cp_aa isTx cmI m e s b r f m' e' s' b' r' f' h w h w a a A B true (ogF A B a 0)).trans ((pre0 _).trans ?_)) (lvOne_ok (x := loopOg) Tryz.func109 (by kernel_rfl) fun K u => eAt_ok (a := outOg m e s b r f m' e' s' b' r' f' h w h w a a A B true (ogF A B a 0)) ⟨fun _ => ?_, fun _ => trivial⟩ K u)
    · have z : ∀ x : Int, (cmI x x != 0) = false := fun x => by unfold cmI; rw [decide_eq_false (by omega)]; rfl
      unfold agF ltOg
      rw [z, z, brF rfl, brF rfl, chkT (eqSt_refl _), chkT rfl]
      cases hc : ogF A B a 0 != 0 with
      | true => rfl
      | false =>
        have e : ogF A B a 0 = 0 := by simpa [bne] using hc
        rw [e]; rfl
    · have key := loopOG (m := m) (e := e) (s := s) (b := b) (r := r) (f := f) (m' := m') (e' := e') (s' := s') (b' := b') (r' := r') (f' := f') (h := h) (w := w) (h' := h) (w' := w) n2 hA hB.1
      refine ⟨fun hc => ?_, fun hc => ?_⟩
      · rw [hc] at key; exact key
      · rw [hc] at key
        have e : ogF A B a 0 = 0 := by simpa [bne] using hc
        rw [e] at key; exact key
  · refine meets_ent (pre := [fR A, fR B]) (post := [fR A, fR B]) T host ((cp_aa isTx cmI m e s b r f m' e' s' b' r' f' h w h' w' a a' A B false 0).trans ((pre0 _).trans ?_)) (lvOne_ok (x := loopOg) Tryz.func109 (by kernel_rfl) fun K u => eAt_ok (a := outOg m e s b r f m' e' s' b' r' f' h w h' w' a a' A B false 0) ⟨fun c => (by cases c), fun _ => trivial⟩ K u)
    unfold agF
    cases h1 : cmI h h' != 0 with
    | true => rfl
    | false => cases h2 : cmI w w' != 0 with
      | true => rfl
      | false => exact absurd ⟨cmI_zero h1, cmI_zero h2⟩ hs
open Classical in
theorem cmp_ss {m e : Int} {s : List UInt8} {b : Bool} {r h w f : Int} {a : Nat} {A : List (List CV)} (hA : RigL a A) (gA : rightA isTx m e s b r h w f a A = true) :
    Meets Tryz.prog 28 [vL 5 m e s b r h w (.dsl 0 a) f, vL 5 m e s b r h w (.dsl 0 a) f] [.flatR false shV A] (.int .i64 (agF h w a A h w A)) [.flatR false shV A] := by
  have T : TabOK Tryz.prog (tCp isTx cmI) := .cons (eRigC_ok eIsT_ok) (.cons eCm_ok .nil)
  obtain ⟨n1, n2⟩ := right_N gA
  have o1 : okRows a A := ⟨hA.1, n2, fun j hj => plR_of (hA.2 j hj)⟩
  refine meets_ent (pre := [fR A]) (post := [fR A]) T host ((cp_ss isTx cmI m e s b r f h w a A true (ogF A A a 0)).trans ?_) (lvOne_ok (x := loopOg) Tryz.func109 (by kernel_rfl) fun K u => eAt_ok (a := outOs m e s b r f h w a A true (ogF A A a 0)) ⟨fun _ => ?_, fun _ => trivial⟩ K u)
  · have z : ∀ x : Int, (cmI x x != 0) = false := fun x => by unfold cmI; rw [decide_eq_false (by omega)]; rfl
    unfold agF ltOs
    rw [chkT (decide_eq_true o1), chkT gA, chkT (decide_eq_true o1), chkT gA, z, z, brF rfl, brF rfl, chkT (eqSt_refl _), chkT rfl]
    cases hc : ogF A A a 0 != 0 with
    | true => rfl
    | false =>
      have e : ogF A A a 0 = 0 := by simpa [bne] using hc
      rw [e]; rfl
  · have key := loopOS (m := m) (e := e) (s := s) (b := b) (r := r) (f := f) (h := h) (w := w) n2 hA
    refine ⟨fun hc => ?_, fun hc => ?_⟩
    · rw [hc] at key; exact key
    · rw [hc] at key
      have e : ogF A A a 0 = 0 := by simpa [bne] using hc
      rw [e] at key; exact key
open Classical in
theorem eCmp_ok : EntOK Tryz.prog 28 (eCmp CmpF.std) := fun args pre => by
  have T : TabOK Tryz.prog (tCp isTx cmI) := .cons (eRigC_ok eIsT_ok) (.cons eCm_ok .nil)
  have T2 : TabOK Tryz.prog (tCq isTx cmI) := .cons (eRigC_ok eIsT_ok) (.cons eCm_ok (.cons (eNo_ok _) .nil))
  unfold eCmp
  split
  · unfold eCmp0
    split
    · rename_i k m e s b r h w f k' m' e' s' b' r' h' w' f'
      refine ⟨fun q1 => ⟨fun q2 => ⟨fun q3 => ⟨fun q4 => ⟨fun q5 => ⟨fun q6 => ?_, fun _ => trivial⟩, fun _ => trivial⟩, fun _ => trivial⟩, fun _ => trivial⟩, fun _ => trivial⟩, fun _ => trivial⟩
      have l1 := of_decide_eq_true q2
      have q3 : rightF isTx k m e s b r h w f = true := q3
      have q6 : rightF isTx k' m' e' s' b' r' h' w' f' = true := q6
      exact meets_ent (pre := []) (post := []) (.cons (eRigC_ok eIsT_ok) (.cons eOrP_ok .nil)) host ((cp_pp isTx ordF k m e s b r f k' m' e' s' b' r' f' h w h' w').trans (by rw [chkT q1, chkT (decide_eq_true (by omega)), chkT q3, chkT q4, chkT q5, chkT q6, chkT q1, chkT q2]; rfl)) nolv_ok
    · trivial
  · rename_i o
    unfold eCmp1
    split
    · rename_i k m e s b r h w l f k' m' e' s' b' r' h' w' l' f'
      split
      · rename_i a A hs
        split
        · refine ⟨fun q1 => ⟨fun q2 => ⟨fun q3 => ⟨fun q4 => ⟨fun q5 => ⟨fun q6 => ?_, fun _ => trivial⟩, fun _ => trivial⟩, fun _ => trivial⟩, fun _ => trivial⟩, fun _ => trivial⟩, fun _ => trivial⟩
          obtain rfl := beq_iff_eq.1 q1
          have q2 : decide (RigL a A) = true := q2
          have q3 : rightA isTx m e s b r h w f a A = true := q3
          have q6 : rightF isTx k' m' e' s' b' r' h' w' f' = true := q6
          have hA := of_decide_eq_true q2
          have n2 := (right_N q3).2
          have o1 : okRows a A := ⟨hA.1, n2, fun j hj => plR_of (hA.2 j hj)⟩
          have hk := of_decide_eq_true q4
          exact meets_rows (j := 0) hs (pre := [.flatR false shV A]) (post := [.flatR false shV A]) (meets_ent (pre := [fR A]) (post := [fR A]) T2 host ((cp_ap isTx cmI m e s b r f k' m' e' s' b' r' f' h w h' w' a A).trans (by rw [chkT (decide_eq_true o1), chkT q3, chkT q4, chkT q5, chkT q6, chkT (bne_iff_ne.2 (by omega))]; rfl)) nolv_ok) rfl fun E => denL_L1 (fun y hy => rowsIn_den hs hy) _
        · split
          · rename_i hs'
            refine ⟨fun q1 => ⟨fun q2 => ⟨fun q3 => ⟨fun q4 => ⟨fun q5 => ?_, fun _ => trivial⟩, fun _ => trivial⟩, fun _ => trivial⟩, fun _ => trivial⟩, fun _ => trivial⟩
            obtain rfl := beq_iff_eq.1 q1
            unfold sameF at q2
            simp only [Bool.and_eq_true, beq_iff_eq] at q2
            obtain ⟨rfl, rfl, rfl, rfl, rfl, rfl, rfl, rfl, rfl⟩ := q2
            obtain rfl := Nat.eq_of_beq_eq_true q3
            exact meets_rows (j := 0) hs (cmp_ss (of_decide_eq_true (show decide (RigL _ _) = true from q4)) q5) rfl fun E xs hx => denL_L1 (fun y hy => rowsIn_den hs hy) _ _ (denL_tl (denL_L1 (fun y hy => rowsIn_den hs' hy) []) _ hx)
          · trivial
      · split
        · rename_i a A hs
          split
          · refine ⟨fun q1 => ⟨fun q2 => ⟨fun q3 => ⟨fun q4 => ⟨fun q5 => ⟨fun q6 => ?_, fun _ => trivial⟩, fun _ => trivial⟩, fun _ => trivial⟩, fun _ => trivial⟩, fun _ => trivial⟩, fun _ => trivial⟩
            obtain rfl := beq_iff_eq.1 q1
            have q4 : rightF isTx k m e s b r h w f = true := q4
            have q5 : decide (RigL a A) = true := q5
            have q6 : rightA isTx m' e' s' b' r' h' w' f' a A = true := q6
            have hk := of_decide_eq_true q2
            have hA := of_decide_eq_true q5
            have n2 := (right_N q6).2
            have o1 : okRows a A := ⟨hA.1, n2, fun j hj => plR_of (hA.2 j hj)⟩
            exact meets_rows (j := 0) hs (pre := [.flatR false shV A]) (post := [.flatR false shV A]) (meets_ent (pre := [fR A]) (post := [fR A]) T host ((cp_pa isTx cmI k m e s b r f m' e' s' b' r' f' h w h' w' a A (by omega)).trans (by rw [chkT q3, chkT q4, chkT (decide_eq_true o1), chkT q6]; rfl)) nolv_ok) rfl fun E => denL_tl (denL_L1 (fun y hy => rowsIn_den hs hy) [])
          · trivial
        · trivial
    · trivial
  · rename_i o o'
    unfold eCmp2
    split
    · split
      · rename_i k m e s b r h w l f k' m' e' s' b' r' h' w' l' f' _ _ a A a' B hs hs'
        refine ⟨fun q1 => ⟨fun q2 => ⟨fun q3 => ⟨fun q4 => ⟨fun q5 => ⟨fun q6 => ?_, fun _ => trivial⟩, fun _ => trivial⟩, fun _ => trivial⟩, fun _ => trivial⟩, fun _ => trivial⟩, fun _ => trivial⟩
        obtain rfl := beq_iff_eq.1 q1
        obtain rfl := beq_iff_eq.1 q2
        have h1 := meets_rows (j := 0) hs (cmp_aa (of_decide_eq_true (show decide (RigL a A) = true from q3)) q4 (of_decide_eq_true (show decide (RigL a' B) = true from q5)) q6) rfl (args' := [vL 5 m e s b r h w l f, vL 5 m' e' s' b' r' h' w' (.dsl 1 a') f']) fun E => denL_L1 (fun y hy => rowsIn_den hs hy) _
        exact meets_rows (j := 1) hs' h1 rfl fun E => denL_tl (denL_L1 (fun y hy => rowsIn_den hs' hy) [])
      · trivial
    · trivial
  · trivial
end Go.Proofs.YtdomenmfkbfakaaGreatDoor

/- Layer 3: values are in one order. -/
set_option linter.unusedVariables false
set_option linter.unusedSimpArgs false
set_option linter.unusedSectionVars false
namespace Go.Proofs.YtdomenmfkbfakaaGreatDoor
open Go Sx
/-- One order: what stands ahead, beside, behind. -/
def Ord3 {α : Type} (c : α → α → Int) : Prop := (∀ x, c x x = 0) ∧ (∀ x y, c y x = -c x y) ∧ (∀ x y, -1 ≤ c x y ∧ c x y ≤ 1) ∧ ∀ x y z, c x y ≤ 0 → c y z ≤ 0 → c x z ≤ 0 ∧ (c x z = 0 → c x y = 0 ∧ c y z = 0)
theorem cmI_spec (x y : Int) : (x < y ∧ cmI x y = -1) ∨ (x = y ∧ cmI x y = 0) ∨ (y < x ∧ cmI x y = 1) := by
  unfold cmI
  by_cases h1 : x < y
  · rw [decide_eq_true h1]; exact .inl ⟨h1, rfl⟩
  · rw [decide_eq_false h1]
    by_cases h2 : x > y
    · rw [decide_eq_true h2]; exact .inr (.inr ⟨h2, rfl⟩)
    · rw [decide_eq_false h2]; exact .inr (.inl ⟨by omega, rfl⟩)
theorem cmI_ord : Ord3 cmI := ⟨fun x => by have := cmI_spec x x; omega, fun x y => by have := cmI_spec x y; have := cmI_spec y x; omega, fun x y => by have := cmI_spec x y; omega, fun x y z h1 h2 => by
  have := cmI_spec x y; have := cmI_spec y z; have := cmI_spec x z; omega⟩
def lexG {α : Type} (c : α → α → Int) : List α → List α → Int
  | [], [] => 0
  | [], _ :: _ => -1
  | _ :: _, [] => 1
  | x :: a, y :: b => bcond (c x y != 0) (c x y) (lexG c a b)
theorem bc_cases (p a : Int) : (p ≠ 0 ∧ bcond (p != 0) p a = p) ∨ (p = 0 ∧ bcond (p != 0) p a = a) := by
  by_cases h : p = 0
  · subst h; exact .inr ⟨rfl, rfl⟩
  · rw [bne_iff_ne.2 h]; exact .inl ⟨h, rfl⟩
section
variable {α : Type} {c : α → α → Int} (hc : Ord3 c)
include hc
theorem lexG_refl : ∀ a : List α, lexG c a a = 0
  | [] => rfl
  | x :: a => by rw [lexG, hc.1 x]; exact lexG_refl a
theorem lexG_anti : ∀ a b : List α, lexG c b a = -lexG c a b
  | [], [] => rfl
  | [], _ :: _ => rfl
  | _ :: _, [] => rfl
  | x :: a, y :: b => by
    have ih := lexG_anti a b
    rw [lexG, lexG]
    have := bc_cases (c x y) (lexG c a b)
    have := bc_cases (c y x) (lexG c b a)
    have := hc.2.1 x y
    omega
theorem lexG_range : ∀ a b : List α, -1 ≤ lexG c a b ∧ lexG c a b ≤ 1
  | [], [] => by simp [lexG]
  | [], _ :: _ => by simp [lexG]
  | _ :: _, [] => by simp [lexG]
  | x :: a, y :: b => by
    have ih := lexG_range a b
    rw [lexG]
    have := bc_cases (c x y) (lexG c a b)
    have := hc.2.2.1 x y
    omega
theorem lexG_trans : ∀ a b d : List α, lexG c a b ≤ 0 → lexG c b d ≤ 0 → lexG c a d ≤ 0 ∧ (lexG c a d = 0 → lexG c a b = 0 ∧ lexG c b d = 0)
  | [], [], [], _, _ => by simp [lexG]
  | [], [], _ :: _, _, _ => by simp [lexG]
  | [], _ :: _, [], _, h => by simp [lexG] at h
  | [], _ :: _, _ :: _, _, _ => by simp [lexG]
  | _ :: _, [], _, h, _ => by simp [lexG] at h
  | _ :: _, _ :: _, [], _, h => by simp [lexG] at h
  | x :: a, y :: b, z :: d, h1, h2 => by
    have ih := lexG_trans a b d
    rw [lexG] at h1 h2
    have ht := hc.2.2.2 x y z
    have p := bc_cases (c x y) (lexG c a b)
    have q := bc_cases (c y z) (lexG c b d)
    have r := bc_cases (c x z) (lexG c a d)
    rw [lexG, lexG, lexG]
    generalize bcond (c x y != 0) (c x y) (lexG c a b) = P at *
    generalize bcond (c y z != 0) (c y z) (lexG c b d) = Q at *
    generalize bcond (c x z != 0) (c x z) (lexG c a d) = R at *
    have t1 : c x y ≤ 0 := by omega
    have t2 : c y z ≤ 0 := by omega
    obtain ⟨t3, t4⟩ := ht t1 t2
    by_cases hr : c x z = 0
    · obtain ⟨t5, t6⟩ := t4 hr
      have a1 : lexG c a b ≤ 0 := by omega
      have a2 : lexG c b d ≤ 0 := by omega
      obtain ⟨a3, a4⟩ := ih a1 a2
      refine ⟨by omega, fun h => ?_⟩
      have := a4 (by omega)
      omega
    · exact ⟨by omega, fun h => by omega⟩
theorem lexG_ord : Ord3 (lexG c) := ⟨lexG_refl hc, lexG_anti hc, lexG_range hc, lexG_trans hc⟩
end
/-- By what a plain value is put in order. -/
def keyF (k m e : Int) (s : List UInt8) (b : Bool) (r : Int) : List Int := k :: (if k = 1 then [Dq.sV m e] else if k = 2 then s.map (fun c => sbI c.toNat) else if k = 3 then [bcond b 1 0] else if k = 4 then [r] else [])
abbrev keyR (x : List CV) : List Int := keyF (rk x) (rm x) (re x) (rs x) (rb x) (rr x)
theorem lex_one (x y : Int) : lexG cmI [x] [y] = cmI x y := by
  show bcond (cmI x y != 0) (cmI x y) 0 = _
  have := bc_cases (cmI x y) 0; omega
theorem lex_text : ∀ s t : List UInt8, lexG cmI (s.map fun c => sbI c.toNat) (t.map fun c => sbI c.toNat) = otF s t
  | [], [] => rfl
  | [], _ :: _ => rfl
  | _ :: _, [] => rfl
  | x :: a, y :: b => by
    rw [List.map_cons, List.map_cons, lexG, otF, lex_text a b]
theorem cmpR_key {m e m' e' : Int} (h1 : Dq.rightB m e = true) (h2 : Dq.rightB m' e' = true) : Dq.cmpR m e m' e' = cmI (Dq.sV m e) (Dq.sV m' e') := by
  unfold Dq.cmpR
  rw [if_pos ⟨h1, h2⟩]
  have := cmI_spec (Dq.sV m e) (Dq.sV m' e')
  split
  · omega
  · split <;> omega
theorem ord_key {x y : List CV} (hx : rigR isTx x = true) (hy : rigR isTx y = true) : ordR x y = lexG cmI (keyR x) (keyR y) := by
  have cx := rightF_facts hx
  have cy := rightF_facts hy
  unfold ordR ordF keyR keyF
  generalize rk x = k at *
  generalize rk y = k' at *
  rw [lexG]
  by_cases hk : k = k'
  · subst hk
    have e0 : (k != k) = false := by simp
    rw [e0, show cmI k k = 0 from cmI_ord.1 k]
    show bcond (k == 1) _ _ = lexG cmI _ _
    have h5 : k = 0 ∨ k = 1 ∨ k = 2 ∨ k = 3 ∨ k = 4 := by omega
    rcases h5 with rfl | rfl | rfl | rfl | rfl
    · rfl
    · show Dq.cmpR (rm x) (re x) (rm y) (re y) = lexG cmI [_] [_]
      rw [lex_one, cmpR_key (cx.2.2.1 rfl) (cy.2.2.1 rfl)]
    · exact (lex_text (rs x) (rs y)).symm
    · exact (lex_one _ _).symm
    · exact (lex_one _ _).symm
  · rw [bne_iff_ne.2 hk]
    have h1 := cmI_spec k k'
    rw [bne_iff_ne.2 (show cmI k k' ≠ 0 by omega)]; rfl
def keyL (A : List (List CV)) : Nat → Nat → List (List Int)
  | 0, _ => []
  | n + 1, i => keyR (Sx.rowAt A i) :: keyL A n (i + 1)
theorem og_key {A B : List (List CV)} : ∀ n i : Nat, (∀ j, i ≤ j → j < i + n → rigR isTx (Sx.rowAt A j) = true ∧ rigR isTx (Sx.rowAt B j) = true) → ogF A B n i = lexG (lexG cmI) (keyL A n i) (keyL B n i)
  | 0, _, _ => rfl
  | n + 1, i, h => by
    have h0 := h i (Nat.le_refl _) (by omega)
    rw [ogF, keyL, keyL, lexG, og_key n (i + 1) fun j h1 h2 => h j (by omega) (by omega), ord_key h0.1 h0.2]
/-- A value of the law: plain, or an array. -/
inductive VV where
  | p (x : List CV)
  | a (h w : Int) (n : Nat) (A : List (List CV))
def VV.ok : VV → Prop
  | .p x => rigR isTx x = true
  | .a h w n A => (1 ≤ h ∧ h ≤ 5) ∧ (1 ≤ w ∧ w ≤ 5) ∧ (n : Int) = h * w ∧ n ≤ 25 ∧ RigL n A
def VV.key : VV → List (List Int)
  | .p x => [keyR x]
  | .a h w n A => [5] :: [h] :: [w] :: keyL A n 0
/-- The order of two values. -/
def VV.cmp : VV → VV → Int
  | .p x, .p y => ordR x y
  | .p x, .a _ _ _ _ => cmI (rk x) 5
  | .a _ _ _ _, .p y => cmI 5 (rk y)
  | .a h w n A, .a h' w' _ B => agF h w n A h' w' B
theorem VV.cmp_key {v u : VV} (hv : v.ok) (hu : u.ok) : v.cmp u = lexG (lexG cmI) v.key u.key := by
  have one : ∀ p : Int, bcond (p != 0) p 0 = p := fun p => by have := bc_cases p 0; omega
  cases v with
  | p x =>
    have hx : rigR isTx x = true := hv
    cases u with
    | p y =>
      have hy : rigR isTx y = true := hu
      show ordR x y = bcond (lexG cmI (keyR x) (keyR y) != 0) (lexG cmI (keyR x) (keyR y)) 0
      rw [one, ord_key hx hy]
    | a h w n A =>
      have c := (rightF_facts hx).1
      have h1 := cmI_spec (rk x) 5
      show cmI (rk x) 5 = bcond (bcond (cmI (rk x) 5 != 0) (cmI (rk x) 5) _ != 0) (bcond (cmI (rk x) 5 != 0) (cmI (rk x) 5) _) _
      rw [bne_iff_ne.2 (show cmI (rk x) 5 ≠ 0 by omega)]
      show _ = bcond (cmI (rk x) 5 != 0) (cmI (rk x) 5) _
      rw [bne_iff_ne.2 (show cmI (rk x) 5 ≠ 0 by omega)]; rfl
  | a h w n A =>
    cases u with
    | p y =>
      have hy : rigR isTx y = true := hu
      have c := (rightF_facts hy).1
      have h1 := cmI_spec 5 (rk y)
      show cmI 5 (rk y) = bcond (bcond (cmI 5 (rk y) != 0) (cmI 5 (rk y)) _ != 0) (bcond (cmI 5 (rk y) != 0) (cmI 5 (rk y)) _) _
      rw [bne_iff_ne.2 (show cmI 5 (rk y) ≠ 0 by omega)]
      show _ = bcond (cmI 5 (rk y) != 0) (cmI 5 (rk y)) _
      rw [bne_iff_ne.2 (show cmI 5 (rk y) ≠ 0 by omega)]; rfl
    | a h' w' n' B =>
      obtain ⟨_, _, n1, _, hA⟩ := hv
      obtain ⟨_, _, n2, _, hB⟩ := hu
      show agF h w n A h' w' B = bcond (lexG cmI [h] [h'] != 0) (lexG cmI [h] [h']) (bcond (lexG cmI [w] [w'] != 0) (lexG cmI [w] [w']) (lexG (lexG cmI) (keyL A n 0) (keyL B n' 0)))
      rw [lex_one, lex_one]
      unfold agF
      have hh := cmI_spec h h'
      have hw := cmI_spec w w'
      by_cases e1 : cmI h h' = 0
      · by_cases e2 : cmI w w' = 0
        · obtain rfl : h = h' := by omega
          obtain rfl : w = w' := by omega
          obtain rfl : n = n' := by omega
          rw [og_key n 0 fun j _ hj => ⟨hA.2 j (by omega), hB.2 j (by omega)⟩]
        · rw [bne_iff_ne.2 e2]; rfl
      · rw [bne_iff_ne.2 e1]; rfl
theorem VV.ord : Ord3 (lexG (lexG cmI)) := lexG_ord (lexG_ord cmI_ord)
/-- What the law asks of three values. -/
theorem VV.law {u v w : VV} (hu : u.ok) (hv : v.ok) (hw : w.ok) : v.cmp u = -u.cmp v ∧ w.cmp v = -v.cmp w ∧ u.cmp u = 0 ∧ -1 ≤ u.cmp v ∧ u.cmp v ≤ 1 ∧ (-1 ≤ v.cmp w ∧ v.cmp w ≤ 1) ∧ (-1 ≤ u.cmp w ∧ u.cmp w ≤ 1) ∧ (u.cmp v ≤ 0 → v.cmp w ≤ 0 → u.cmp w ≤ 0 ∧ (u.cmp w = 0 → u.cmp v = 0 ∧ v.cmp w = 0)) ∧ (u.cmp v = 0 → u.cmp w = v.cmp w) := by
  rw [VV.cmp_key hv hu, VV.cmp_key hu hv, VV.cmp_key hw hv, VV.cmp_key hv hw, VV.cmp_key hu hu, VV.cmp_key hu hw]
  obtain ⟨o1, o2, o3, o4⟩ := VV.ord
  generalize u.key = x at *
  generalize v.key = y at *
  generalize w.key = z at *
  have a1 := o2 x y
  have a2 := o2 y z
  have a3 := o2 x z
  have b1 := o3 x y
  have b2 := o3 y z
  have b3 := o3 x z
  have t1 := o4 x y z
  have t2 := o4 y x z
  have t3 := o4 z y x
  refine ⟨a1, a2, o1 x, b1.1, b1.2, b2, b3, t1, fun h => ?_⟩
  generalize lexG (lexG cmI) x y = xy at *
  generalize lexG (lexG cmI) y x = yx at *
  generalize lexG (lexG cmI) y z = yz at *
  generalize lexG (lexG cmI) z y = zy at *
  generalize lexG (lexG cmI) x z = xz at *
  generalize lexG (lexG cmI) z x = zx at *
  by_cases c1 : yz ≤ 0
  · have := t1 (by omega) c1
    by_cases c2 : xz ≤ 0
    · have := t2 (by omega) c2; omega
    · omega
  · have := t3 (by omega) (by omega)
    omega
end Go.Proofs.YtdomenmfkbfakaaGreatDoor

/- Law 3: arrays of raw numbers, from a place of a list on. -/
set_option linter.unusedVariables false
set_option linter.unusedSimpArgs false
set_option linter.unusedSectionVars false
namespace Go.Proofs.YtdomenmfkbfakaaGreatDoor
open Go Sx
def ixV (i : Int) (a : Nat) : Bool := ixN i a && true
def inV (off : Nat) (i : Int) (R : List (List CV)) : Bool := decide (off + i.toNat < R.length) && true && true
theorem ixV_nat {j a : Nat} (h : j < a) : ixV (j : Int) a = true := by unfold ixV; rw [ixN_nat h]; rfl
theorem inV_nat {off j : Nat} {R : List (List CV)} (h : off + j < R.length) : inV off (j : Int) R = true := by unfold inV; rw [Int.toNat_natCast, decide_eq_true h]; rfl
theorem rowAt_drop (R : List (List CV)) (off i : Nat) : Sx.rowAt (R.drop off) i = Sx.rowAt R (off + i) := by simp [Sx.rowAt, List.getD_eq_getElem?_getD]
section
variable (f : FV) (H W : Int) (off a : Nat) (R : List (List CV))
def sAw (l : AV) (t : List (Option PObj)) (i : Int) : PState := ⟨none :: none :: some (.vsl 0 5 off a) :: none :: none :: none :: some (.ptr 1 0) :: some (.ptr 2 0) :: some (.int .i64 i) :: nn 39, some (fW R) :: some (vCells 0 0 0 [] false 0 0 0 0 .nilslice) :: some (vCells 5 0 0 [] false 0 H W 0 l) :: (t ++ nn 64)⟩
def sAXw (l : AV) (t : List (Option PObj)) : PState := ⟨nn 6 ++ some (.ptr 1 0) :: some (.ptr 2 0) :: nn 40, some (fW R) :: some (vCells 0 0 0 [] false 0 0 0 0 .nilslice) :: some (vCells 5 0 0 [] false 0 H W 0 l) :: (t ++ nn 64)⟩
theorem rA0w : code (ent Tryz.prog (tAr f) nolv 64 1 20) Tryz.prog {} 1 64 1 loopA1 (sAw H W off a R .nilslice [] 0) (endK 1 64 (fun n => hasN [2, 6, 7, 8] n) (fun n => hasN [6, 7] n))
  = bcond (decide (0 < w64 (H * W))) (bcond ((a : Int) == 0) (some (.normal, sAw H W off a R (.vec 3 1) [some (vR34 [zR])] 1))
      (chks (chks (some (.normal, sAw H W off a R (.vec 3 1) [some (vR34 [nrm (rvF f (Sx.rowAt R (off + (rI a 0).toNat)))])] 1)) (okC (Sx.rowAt R (off + (rI a 0).toNat)))) [(a : Int) != 0, ixV (rI a 0) a, inV off (rI a 0) R])) (some (.exit 0, sAXw H W R .nilslice [])) := by kernel_rfl
theorem rA1w (n : Nat) (L : List (List CV)) (i : Int) : code (ent Tryz.prog (tAr f) nolv 64 1 20) Tryz.prog {} 1 64 1 loopA1 (sAw H W off a R (.vec 3 n) [some (vR34 L)] i) (endK 1 64 (fun n => hasN [2, 6, 7, 8] n) (fun n => hasN [6, 7] n))
  = bcond (decide (i < w64 (H * W))) (bcond ((a : Int) == 0) (chks (some (.normal, sAw H W off a R (.vec 3 (n + 1)) [some (vR34 (L ++ [zR]))] (up1 i))) [bV n L])
      (chks (chks (chks (some (.normal, sAw H W off a R (.vec 3 (n + 1)) [some (vR34 (L ++ [nrm (rvF f (Sx.rowAt R (off + (rI a i).toNat)))]))] (up1 i))) [bV n L]) (okC (Sx.rowAt R (off + (rI a i).toNat)))) [(a : Int) != 0, ixV (rI a i) a, inV off (rI a i) R])) (some (.exit 0, sAXw H W R (.vec 3 n) [some (vR34 L)])) := by kernel_rfl
def outAw (N : Nat) (c : Bool) (L : List (List CV)) : LAns := .chk c (.out (.exit 0) (sAXw H W R (.vec 3 N) [some (vR34 L)]))
noncomputable def lvAw (N : Nat) (c : Bool) (L : List (List CV)) : FuncId → Lv := lvOf 13 (fun _ => some [2, 6, 7, 8]) (oneL 3 (eAt 1 (sAw H W off a R .nilslice [] 0) (outAw H W R N c L)))
theorem ar_comesw (h w : Int) (N : Nat) (c : Bool) (L : List (List CV)) : Comes [(24, ePick)] (lvAw (w64 (1 + pickS h 5)) (w64 (1 + pickS w 5)) off a R N c L) 13 [.int .i64 h, .int .i64 w, .vsl 0 5 off a] [fW R]
  (.chk (inI h) (.chk (inI w) (.chk (eqSt (sAw (w64 (1 + pickS h 5)) (w64 (1 + pickS w 5)) off a R .nilslice [] 0) (sAw (w64 (1 + pickS h 5)) (w64 (1 + pickS w 5)) off a R .nilslice [] 0)) (.chk c (.ret (vL 5 0 0 [] false 0 (w64 (1 + pickS h 5)) (w64 (1 + pickS w 5)) (.vec 1 N) 0) [fW R, vR34 L]))))) := by unfold Comes; kernel_rfl
end
section
variable {f : FV} {H W : Int} {off a N : Nat} {R : List (List CV)}
def sAjw (f : FV) (H W : Int) (off a : Nat) (R : List (List CV)) : Nat → PState
  | 0 => sAw H W off a R .nilslice [] 0
  | n + 1 => sAw H W off a R (.vec 3 (n + 1)) [some (vR34 (arL f a (R.drop off) (n + 1)))] ((n + 1 : Nat) : Int)
theorem roundAw (hR : okW a (R.drop off)) (hN : w64 (H * W) = (N : Int)) (h1 : N ≤ 1000) (j : Nat) (hj : j < N) : code (ent Tryz.prog (tAr f) nolv 64 1 20) Tryz.prog {} 1 64 1 loopA1 (sAjw f H W off a R j) (endK 1 64 (fun n => hasN [2, 6, 7, 8] n) (fun n => hasN [6, 7] n)) = some (.normal, sAjw f H W off a R (j + 1)) := by
  obtain ⟨hl, hs, hc⟩ := hR
  have hb : ∀ n, n ≤ 1000 → bV n (arL f a (R.drop off) n) = true := fun n hn => by unfold bV roomB; rw [arL_len]; simp; omega
  have h3 : ∀ j : Nat, 0 < a → ∀ x ∈ [(a : Int) != 0, ixV (rI a j) a, inV off (rI a j) R], x = true := fun j h0 => by
    have := Nat.mod_lt j h0
    rw [rI_nat]
    exact all3' (bne_iff_ne.2 (by omega)) (ixV_nat this) (inV_nat (by rw [List.length_drop] at hl; omega))
  by_cases h0 : a = 0
  · subst h0
    have z0 : (((0 : Nat) : Int) == 0) = true := rfl
    cases j with
    | zero =>
      rw [sAjw, rA0w, hN, bcT (decide_eq_true (by omega)), bcT z0]; rfl
    | succ j =>
      rw [sAjw, rA1w, hN, bcT (decide_eq_true (by omega)), bcT z0, chks_true (by simpa using hb (j + 1) (by omega)), up1_nat (by omega)]
      rw [show zR = arJ f 0 (R.drop off) (j + 1) from rfl, arL_succ]; rfl
  · have ha : 0 < a := by omega
    have eJ : ∀ i, nrm (rvF f (Sx.rowAt (R.drop off) (i % a))) = arJ f a (R.drop off) i := fun i => by unfold arJ; rw [show Nat.beq a 0 = false from Bool.eq_false_iff.2 fun e => h0 (beqT.1 e)]; rfl
    cases j with
    | zero =>
      have h3' := h3 0 ha
      rw [sAjw, rA0w, hN, bcT (decide_eq_true (by omega)), bcF (beq_eq_false_iff_ne.2 (by omega))]
      rw [show rI a ((0 : Nat) : Int) = ((0 % a : Nat) : Int) from rfl] at h3'
      rw [show rI a 0 = ((0 % a : Nat) : Int) from rfl, chks_true h3', Int.toNat_natCast, ← rowAt_drop, chks_true (hc _ (Nat.mod_lt _ ha)), eJ 0]; rfl
    | succ j =>
      rw [sAjw, rA1w, hN, bcT (decide_eq_true (by omega)), bcF (beq_eq_false_iff_ne.2 (by omega)), chks_true (h3 (j + 1) ha), rI_nat, Int.toNat_natCast, ← rowAt_drop, chks_true (hc _ (Nat.mod_lt _ ha)), chks_true (by simpa using hb (j + 1) (by omega)), up1_nat (by omega), eJ (j + 1), arL_succ]; rfl
theorem loopAw (hf : EntOK Tryz.prog 12 (eVal f)) (hR : okW a (R.drop off)) (hN : w64 (H * W) = (N : Int)) (h1 : 1 ≤ N ∧ N ≤ 1000) : Tri Tryz.prog (.loop loopA1) (sAw H W off a R .nilslice [] 0).toA (.exit 0) (sAXw H W R (.vec 3 N) [some (vR34 (arL f a (R.drop off) N))]).toA 1 := by
  have key := loop_rounds (ent_sound (T := tAr f) (.cons ePick_ok (.cons hf .nil)) host nolv_ok (NF := 64) (m := 1) 20) (NF := 64) (m := 1) (x := loopA1) (K := 1) loops_none (fun n => hasN [2, 6, 7, 8] n) (fun n => hasN [6, 7] n) (ι := { j : Nat // j ≤ N }) (fun j => sAjw f H W off a R j.1) (fun j => N - j.1) (fun j => (.exit 0, sAXw H W R (.vec 3 N) [some (vR34 (arL f a (R.drop off) N))])) ?_ (fun j => by simp) ⟨0, Nat.zero_le _⟩
  · exact key
  rintro ⟨j, hj⟩
  simp only
  by_cases hl : j < N
  · exact .inl ⟨⟨j + 1, hl⟩, by simp only; omega, trivial, roundAw hR hN h1.2 j hl⟩
  · obtain rfl : j = N := by omega
    cases j with
    | zero => omega
    | succ j =>
      right
      rw [sAjw, rA1w, hN, bcF (decide_eq_false (by omega))]
end
/-- What is asked for out of a list that is handed in, whole or from a place on. -/
def rowsW (v : AV) (o : PObj) : Option (Nat × List (List CV)) := match v, o with
  | .dsl j k, .raw (.flatR f sh R) => if Nat.beq j 0 && shEq sh shW && !f then some (k, R) else none
  | .vsl j w off k, .raw (.flatR f sh R) => if Nat.beq j 0 && shEq sh shW && !f && Nat.beq w 5 then some (k, R.drop off) else none
  | _, _ => none
def eArW (C : CmpF) : Ent := fun args pre => match args, pre with
  | [.int .i64 h, .int .i64 w, l], [o] => match rowsW l o with
    | some (a, R) => .chk (inI h) (.chk (inI w) (.chk (C.ok a R) (.ret (vL 5 0 0 [] false 0 (C.sz h) (C.sz w) (.vec 1 (C.na h w)) 0) [o, vR34 (C.al a R (C.na h w))])))
    | none => .fail
  | _, _ => .fail
open Classical in
theorem eArW_ok (hf : EntOK Tryz.prog 12 (eVal valR)) : EntOK Tryz.prog 13 (eArW CmpF.std) := fun args pre => by
  unfold eArW
  split
  · rename_i h w l o
    unfold rowsW
    cases l with
    | dsl j k =>
      cases o with
      | raw o =>
        cases o with
        | flatR m sh R =>
          by_cases hc : (Nat.beq j 0 && shEq sh shW && !m) = true
          · have key := eArr_ok hf [.int .i64 h, .int .i64 w, .dsl j k] [.raw (.flatR m sh R)]
            unfold eArr at key
            simp only [hc, if_true]
            exact key.1 hc
          · simp only [hc]; trivial
        | _ => trivial
      | _ => trivial
    | vsl j x off a =>
      cases o with
      | raw o =>
        cases o with
        | flatR m sh R =>
          by_cases hc : (Nat.beq j 0 && shEq sh shW && !m && Nat.beq x 5) = true
          · simp only [hc, if_true]
            refine ⟨fun g1 => ⟨fun g2 => ⟨fun g3 => ?_, fun _ => trivial⟩, fun _ => trivial⟩, fun _ => trivial⟩
            rw [Bool.and_eq_true, Bool.and_eq_true, Bool.and_eq_true, beqT, beqT] at hc
            obtain ⟨⟨⟨rfl, g⟩, gm⟩, rfl⟩ := hc
            obtain rfl := shEq_of g
            cases m with
            | true => cases gm
            | false =>
            have g3 := of_decide_eq_true g3
            obtain ⟨n1, n2, n3⟩ := nA_bd h w
            have h1 := pickS_bd (a := h) (n := 5) (by decide)
            have h2 := pickS_bd (a := w) (n := 5) (by decide)
            have e1 : w64 (1 + pickS h 5) = sz5 h := w64_of (inI_iff.2 ⟨by omega, by omega⟩)
            have e2 : w64 (1 + pickS w 5) = sz5 w := w64_of (inI_iff.2 ⟨by omega, by omega⟩)
            have key := ar_comesw off a R h w (nA h w) true (arL valR a (R.drop off) (nA h w))
            rw [e1, e2] at key
            exact meets_ent (T := [(24, ePick)]) (pre := [fW R]) (post := [fW R, vR34 (arL valR a (R.drop off) (nA h w))]) (.cons ePick_ok .nil) host (key.trans (by rw [chkT g1, chkT g2, chkT (eqSt_refl _), chkT rfl]; rfl)) (lvOne_ok (x := loopA1) Tryz.func13 (by kernel_rfl) fun K t => eAt_ok (a := outAw (sz5 h) (sz5 w) R (nA h w) true (arL valR a (R.drop off) (nA h w))) ⟨fun _ => loopAw hf g3 (by rw [w64_of (inI_iff.2 ⟨by omega, by omega⟩), n1]) ⟨n2, by omega⟩, fun _ => trivial⟩ K t)
          · simp only [hc]; trivial
        | _ => trivial
      | _ => trivial
    | _ => trivial
  · trivial
end Go.Proofs.YtdomenmfkbfakaaGreatDoor

/- Law 3: values are in one order (ValOrder): entries that ask all at once, the law's tree. -/
set_option linter.unusedVariables false
set_option linter.unusedSimpArgs false
set_option linter.unusedSectionVars false
namespace Go.Proofs.YtdomenmfkbfakaaGreatDoor
open Go Sx
def eCp2 (C : CmpF) (o o' : PObj) : List AV → Ans
  | [.agg [.int .i64 k, .int .i64 m, .int .i64 e, .str s, .bool b, .int .i64 r, .int .i64 h, .int .i64 w, l, .int .i64 f, .nilslice, .nilslice], .agg [.int .i64 k', .int .i64 m', .int .i64 e', .str s', .bool b', .int .i64 r', .int .i64 h', .int .i64 w', l', .int .i64 f', .nilslice, .nilslice]] =>
    match rowsIn 0 l o, rowsIn 1 l' o' with
    | some (a, A), some (a', B) => .chk ((k == 5) && ((k' == 5) && ((C.rl a A) && ((C.rA m e s b r h w f a A) && ((C.rl a' B) && (C.rA m' e' s' b' r' h' w' f' a' B)))))) (.ret (.int .i64 (C.ga h w a A h' w' B)) [o, o'])
    | _, _ => .fail
  | _ => .fail
def eCp1 (C : CmpF) (o : PObj) : List AV → Ans
  | [.agg [.int .i64 k, .int .i64 m, .int .i64 e, .str s, .bool b, .int .i64 r, .int .i64 h, .int .i64 w, l, .int .i64 f, .nilslice, .nilslice], .agg [.int .i64 k', .int .i64 m', .int .i64 e', .str s', .bool b', .int .i64 r', .int .i64 h', .int .i64 w', l', .int .i64 f', .nilslice, .nilslice]] =>
    match rowsIn 0 l o with
    | some (a, A) => match l' with
      | .nilslice => .chk ((k == 5) && ((C.rl a A) && ((C.rA m e s b r h w f a A) && ((decide (0 ≤ k' ∧ k' ≤ 4)) && ((decide (s'.length ≤ 1000000)) && (C.rF k' m' e' s' b' r' h' w' f')))))) (.ret (.int .i64 (C.gi 5 k')) [o])
      | _ => match rowsIn 0 l' o with
        | some (a', _) => .chk ((k == 5) && ((sameF k' m' e' s' b' r' h' w' f' k m e s b r h w f) && ((Nat.beq a' a) && ((C.rl a A) && (C.rA m e s b r h w f a A))))) (.ret (.int .i64 (C.ga h w a A h w A)) [o])
        | none => .fail
    | none => match rowsIn 0 l' o with
      | some (a, A) => match l with
        | .nilslice => .chk ((k' == 5) && ((decide (0 ≤ k ∧ k ≤ 4)) && ((decide (s.length ≤ 1000000)) && ((C.rF k m e s b r h w f) && ((C.rl a A) && (C.rA m' e' s' b' r' h' w' f' a A)))))) (.ret (.int .i64 (C.gi k 5)) [o])
        | _ => .fail
      | none => .fail
  | _ => .fail
def eCp0 (C : CmpF) : List AV → Ans
  | [.agg [.int .i64 k, .int .i64 m, .int .i64 e, .str s, .bool b, .int .i64 r, .int .i64 h, .int .i64 w, .nilslice, .int .i64 f, .nilslice, .nilslice], .agg [.int .i64 k', .int .i64 m', .int .i64 e', .str s', .bool b', .int .i64 r', .int .i64 h', .int .i64 w', .nilslice, .int .i64 f', .nilslice, .nilslice]] =>
    .chk ((decide (0 ≤ k ∧ k ≤ 4)) && ((decide (s.length < 1000000)) && ((C.rF k m e s b r h w f) && ((decide (0 ≤ k' ∧ k' ≤ 4)) && ((decide (s'.length ≤ 1000000)) && (C.rF k' m' e' s' b' r' h' w' f')))))) (.ret (.int .i64 (C.g0 k m e s b r k' m' e' s' b' r')) [])
  | _ => .fail
/-- The order of values that are right; all that is asked at once. -/
def eCp (C : CmpF) : Ent := fun args pre => match pre with
  | [] => eCp0 C args
  | [o] => eCp1 C o args
  | [o, o'] => eCp2 C o o' args
  | _ => .fail
theorem pk3 {f : FuncId} {args : List AV} {pre : List PObj} {a b c : Bool} {X : Ans} (h : AnsOK Tryz.prog f args pre (.chk a (.chk b (.chk c X)))) : AnsOK Tryz.prog f args pre (.chk (a && (b && c)) X) := ⟨fun g => by
  simp only [Bool.and_eq_true] at g
  exact ((h.1 g.1).1 g.2.1).1 g.2.2, fun _ => trivial⟩
theorem pk4 {f : FuncId} {args : List AV} {pre : List PObj} {a b c d : Bool} {X : Ans} (h : AnsOK Tryz.prog f args pre (.chk a (.chk b (.chk c (.chk d X))))) : AnsOK Tryz.prog f args pre (.chk (a && (b && (c && d))) X) := ⟨fun g => by
  simp only [Bool.and_eq_true] at g
  exact (((h.1 g.1).1 g.2.1).1 g.2.2.1).1 g.2.2.2, fun _ => trivial⟩
theorem pk5 {f : FuncId} {args : List AV} {pre : List PObj} {a b c d e : Bool} {X : Ans} (h : AnsOK Tryz.prog f args pre (.chk a (.chk b (.chk c (.chk d (.chk e X)))))) : AnsOK Tryz.prog f args pre (.chk (a && (b && (c && (d && e)))) X) := ⟨fun g => by
  simp only [Bool.and_eq_true] at g
  exact ((((h.1 g.1).1 g.2.1).1 g.2.2.1).1 g.2.2.2.1).1 g.2.2.2.2, fun _ => trivial⟩
theorem pk6 {f : FuncId} {args : List AV} {pre : List PObj} {a b c d e k : Bool} {X : Ans} (h : AnsOK Tryz.prog f args pre (.chk a (.chk b (.chk c (.chk d (.chk e (.chk k X))))))) : AnsOK Tryz.prog f args pre (.chk (a && (b && (c && (d && (e && k))))) X) := ⟨fun g => by
  simp only [Bool.and_eq_true] at g
  exact (((((h.1 g.1).1 g.2.1).1 g.2.2.1).1 g.2.2.2.1).1 g.2.2.2.2.1).1 g.2.2.2.2.2, fun _ => trivial⟩
theorem eCp_ok : EntOK Tryz.prog 28 (eCp CmpF.std) := fun args pre => by
  have key := eCmp_ok args pre
  unfold eCmp at key
  unfold eCp
  split
  · unfold eCp0
    split
    · exact pk6 key
    · trivial
  · unfold eCp1
    split
    · simp only [eCmp1] at key
      split
      · rename_i hs
        simp only [hs] at key
        split
        · exact pk6 key
        · split
          · rename_i hs'
            simp only [hs'] at key
            exact pk5 key
          · trivial
      · rename_i hs
        simp only [hs] at key
        split
        · rename_i hs'
          simp only [hs'] at key
          split
          · exact pk6 key
          · trivial
        · trivial
    · trivial
  · unfold eCp2
    split
    · simp only [eCmp2] at key
      split
      · rename_i hs hs'
        simp only [hs, hs'] at key
        exact pk6 key
      · trivial
    · trivial
  · trivial
def eVaK (f : FV) : Ent := fun args pre => match args, pre with
  | [.agg [.int .i64 k, .int .i64 m, .int .i64 e, .str s, .bool b]], [] => .chk (inI k && (inI m && (inI e && decide (s.length ≤ 9223372036854775807)))) (.ret (vR (f k m e s b)) [])
  | _, _ => .fail
theorem eVaK_ok {f : FV} (hf : EntOK Tryz.prog 12 (eVal f)) : EntOK Tryz.prog 12 (eVaK f) := fun args pre => by
  have key := hf args pre
  unfold eVal at key
  unfold eVaK
  split
  · exact pk4 key
  · trivial
def eArK (C : CmpF) : Ent := fun args pre => match args, pre with
  | [.int .i64 h, .int .i64 w, l], [o] => match rowsW l o with
    | some (a, R) => .chk (inI h && (inI w && C.ok a R)) (.ret (vL 5 0 0 [] false 0 (C.sz h) (C.sz w) (.vec 1 (C.na h w)) 0) [o, vR34 (C.al a R (C.na h w))])
    | none => .fail
  | _, _ => .fail
theorem eArK_ok (hf : EntOK Tryz.prog 12 (eVal valR)) : EntOK Tryz.prog 13 (eArK CmpF.std) := fun args pre => by
  have key := eArW_ok hf args pre
  unfold eArW at key
  unfold eArK
  split
  · split
    · rename_i hs
      simp only [hs] at key
      exact pk3 key
    · trivial
  · trivial
def tVo (f : FV) (C : CmpF) : Tab := [(11, eTrue), (12, eVaK f), (28, eCp C), (13, eArK C)]
/-- Where the list begins that is asked for. -/
def offI (a : Nat) (i : Int) : Int := if (a : Int) < i then (a : Int) else i
abbrev offO (a : Nat) (i : Int) : Nat := (offI a i).toNat
def slO (a : Nat) (i : Int) : Bool := decide (0 ≤ offI a i) && (true && decide ((offI a i).toNat ≤ a ∧ a ≤ a))
def vvO (C : CmpF) (a : Nat) (R : List (List CV)) (i : Int) (h : Bool) (x : List CV) : VV := match h with
  | false => .p x
  | true => .a (C.sz (rr x)) (C.sz (w64 (rk x + i))) (C.na (rr x) (w64 (rk x + i))) (C.al (a - offO a i) (R.drop (offO a i)) (C.na (rr x) (w64 (rk x + i))))
def ckO (C : CmpF) (a : Nat) (R : List (List CV)) (i : Int) (h : Bool) (x : List CV) (X : Ans) : Ans := match h with
  | false => X
  | true => .chk (slO a i) (.chk (inI (rr x) && (inI (w64 (rk x + i)) && C.ok (a - offO a i) (R.drop (offO a i)))) X)
abbrev rF9 (C : CmpF) (x : List CV) : Bool := C.rF (rk x) (rm x) (re x) (rs x) (rb x) (rr x) (rh x) (rw_ x) (rf x)
abbrev rA0' (C : CmpF) (h w : Int) (n : Nat) (A : List (List CV)) : Bool := C.rA 0 0 [] false 0 h w 0 n A
/-- What is asked where two values are put in order. -/
def cmpT (C : CmpF) (v u : VV) (X : Ans) : Ans := match v, u with
  | .p x, .p y => .chk (decide (0 ≤ rk x ∧ rk x ≤ 4) && (decide ((rs x).length < 1000000) && (rF9 C x && (decide (0 ≤ rk y ∧ rk y ≤ 4) && (decide ((rs y).length ≤ 1000000) && rF9 C y))))) X
  | .a h w n A, .a h' w' n' B => .chk ((5 : Int) == 5 && ((5 : Int) == 5 && (C.rl n A && (rA0' C h w n A && (C.rl n' B && rA0' C h' w' n' B))))) X
  | .a h w n A, .p y => .chk ((5 : Int) == 5 && (C.rl n A && (rA0' C h w n A && (decide (0 ≤ rk y ∧ rk y ≤ 4) && (decide ((rs y).length ≤ 1000000) && rF9 C y))))) X
  | .p x, .a h w n A => .chk ((5 : Int) == 5 && (decide (0 ≤ rk x ∧ rk x ≤ 4) && (decide ((rs x).length ≤ 1000000) && (rF9 C x && (C.rl n A && rA0' C h w n A))))) X
def cmpS (C : CmpF) (v : VV) (X : Ans) : Ans := match v with
  | .p x => cmpT C (.p x) (.p x) X
  | .a h w n A => .chk ((5 : Int) == 5 && (sameF 5 0 0 [] false 0 h w 0 5 0 0 [] false 0 h w 0 && (Nat.beq n n && (C.rl n A && rA0' C h w n A)))) X
def cmpG (C : CmpF) : VV → VV → Int
  | .p x, .p y => C.g0 (rk x) (rm x) (re x) (rs x) (rb x) (rr x) (rk y) (rm y) (re y) (rs y) (rb y) (rr y)
  | .p x, .a _ _ _ _ => C.gi (rk x) 5
  | .a _ _ _ _, .p y => C.gi 5 (rk y)
  | .a h w n A, .a h' w' _ B => C.ga h w n A h' w' B
def endO (R : List (List CV)) (ab bc ac : Int) : Ans := .br (ab != 0) (fwB R true) (fwB R (ac == bc))
def tailO (R : List (List CV)) (ab bc ac : Int) : Ans := .br (decide (ab < -1)) (fwB R false) (.br (decide (ab > 1)) (fwB R false) (.br (decide (ab ≤ 0)) (.br (decide (bc ≤ 0)) (.br (decide (ac > 0)) (fwB R false) (.br (ac == 0) (.br (decide (ab < 0)) (fwB R false) (.br (decide (bc < 0)) (fwB R false) (endO R ab bc ac))) (endO R ab bc ac))) (endO R ab bc ac)) (endO R ab bc ac)))
def allO (C : CmpF) (R : List (List CV)) (u v w : VV) : Ans := cmpT C u v (cmpT C v w (cmpT C u w (cmpT C v u (.br (cmpG C v u != w64 (0 - cmpG C u v)) (fwB R false) (cmpT C w v (.br (cmpG C w v != w64 (0 - cmpG C v w)) (fwB R false) (cmpS C u (.br (cmpG C u u != 0) (fwB R false) (tailO R (cmpG C u v) (cmpG C v w) (cmpG C u w))))))))))
def voT (C : CmpF) (a : Nat) (R : List (List CV)) (h0 h1 h2 : Bool) (x y z : List CV) : Ans := ckO C a R 0 h0 x (ckO C a R 1 h1 y (ckO C a R 2 h2 z (allO C R (vvO C a R 0 h0 x) (vvO C a R 1 h1 y) (vvO C a R 2 h2 z))))
abbrev rawA (k m e : Int) (s : List UInt8) (b : Bool) : AV := .agg [.int .i64 k, .int .i64 m, .int .i64 e, .str s, .bool b]
def vlC (k m e : Int) (s : List UInt8) (X : Ans) : Ans := .chk (inI k && (inI m && (inI e && decide (s.length ≤ 9223372036854775807)))) X
end Go.Proofs.YtdomenmfkbfakaaGreatDoor
