/- Layer 3: what stands where in an array; arrays that are made; which values are the same. -/
import Derived.Test.YtdomenmfkbfakaaGreatDoorGr07
import Derived.Test.YtdomenmfkbfakaaGreatDoorGr06
set_option linter.unusedVariables false
set_option linter.unusedSimpArgs false
namespace Go.Proofs.YtdomenmfkbfakaaGreatDoor
open Go Sx
/-- An error, as a row. -/
def errR (n : Int) : List CV := mkR 4 0 0 [] false n 0 0 0
def errT (n : Int) (pre : List PObj) : Ans := .ret (vL 4 0 0 [] false n 0 0 .nilslice 0) pre
-- Get
noncomputable def tGet (tx : List UInt8 → Bool) : Tab := [(27, eRig tx), (57, eCop)]
def leafG (h w : Int) (a : Nat) (R : List (List CV)) (i j : Int) : Ans :=
  .br (decide (i ≥ h)) (errT 7 [fR R]) (.br (decide (j ≥ w)) (errT 7 [fR R]) (.chk (decide (0 ≤ w64 (w64 (i * w) + j) ∧ w64 (w64 (i * w) + j) < (a : Int))) (.chk (inR (w64 (w64 (i * w) + j)) R) (.ret (vR (Sx.rowAt R (w64 (w64 (i * w) + j)).toNat)) [fR R]))))
open Classical in
theorem get_a (tx : List UInt8 → Bool) (m e : Int) (s : List UInt8) (b : Bool) (r h w f : Int) (a : Nat) (R : List (List CV)) (i j : Int) : Comes (tGet tx) nolv 22 [vL 5 m e s b r h w (.dsl 0 a) f, .int .i64 i, .int .i64 j] [fR R]
  (.chk (decide (okRows a R)) (.br (!(rightA tx m e s b r h w f a R)) (errT 3 [fR R]) (.br (decide (i < 0)) (errT 7 [fR R]) (.br (decide (j < 0)) (errT 7 [fR R]) (.br (h == 1) (.br (w == 1) (leafG h w a R 0 0) (leafG h w a R 0 j)) (.br (w == 1) (leafG h w a R i 0) (leafG h w a R i j))))))) := by unfold Comes; kernel_rfl
theorem get_p (tx : List UInt8 → Bool) (k m e : Int) (s : List UInt8) (b : Bool) (r h w f : Int) (i j : Int) (hk : k = 0 ∨ k = 1 ∨ k = 2 ∨ k = 3 ∨ k = 4) : Comes (tGet tx) nolv 22 [vL k m e s b r h w .nilslice f, .int .i64 i, .int .i64 j] []
  (.chk (decide (s.length ≤ 1000000)) (.br (!(rightF tx k m e s b r h w f)) (errT 3 []) (.br (decide (i < 0)) (errT 7 []) (.br (decide (j < 0)) (errT 7 []) (.ret (vL k m e s b r h w .nilslice f) []))))) := by rcases hk with rfl | rfl | rfl | rfl | rfl <;> (unfold Comes; kernel_rfl)
/-- What stands in an array that is right, as a row. -/
def atG (h w : Int) (R : List (List CV)) (i j : Int) : List CV :=
  let i' := if h = 1 then 0 else i
  let j' := if w = 1 then 0 else j
  if i < 0 ∨ j < 0 ∨ h ≤ i' ∨ w ≤ j' then errR 7 else Sx.rowAt R (i' * w + j').toNat
def getA (tx : List UInt8 → Bool) (m e : Int) (s : List UInt8) (b : Bool) (r h w f : Int) (a : Nat) (R : List (List CV)) (i j : Int) : List CV := bcond (rightA tx m e s b r h w f a R) (atG h w R i j) (errR 3)
theorem leafG_run {h w : Int} {a : Nat} {R : List (List CV)} {i j : Int} (h1 : 1 ≤ h) (h2 : 1 ≤ w) (h3 : w ≤ 400 / h) (h4 : (a : Int) = h * w) (hR : a ≤ R.length) (hi : 0 ≤ i) (hj : 0 ≤ j) :
    (leafG h w a R i j).run pure2 = pure2 (vR (if h ≤ i ∨ w ≤ j then errR 7 else Sx.rowAt R (i * w + j).toNat)) [fR R] := by
  unfold leafG
  by_cases c1 : h ≤ i
  · rw [brT (decide_eq_true c1), if_pos (.inl c1)]; rfl
  · rw [brF (decide_eq_false c1)]
    by_cases c2 : w ≤ j
    · rw [brT (decide_eq_true c2), if_pos (.inr c2)]; rfl
    · rw [brF (decide_eq_false c2), if_neg (by omega)]
      have a3 := le_400 h1 h3
      have a4 : 0 ≤ i * w := Int.mul_nonneg hi (by omega)
      have a5 : (i + 1) * w ≤ h * w := Int.mul_le_mul_of_nonneg_right (by omega) (by omega)
      rw [Int.add_mul, Int.one_mul] at a5
      rw [w64_of (a := i * w) (inI_iff.2 ⟨by omega, by omega⟩), w64_of (inI_iff.2 ⟨by omega, by omega⟩), chkT (decide_eq_true ⟨by omega, by omega⟩), chkT (by unfold inR; rw [decide_eq_true (by omega)]; rfl)]
      rfl
open Classical in
noncomputable def eGet (tx : List UInt8 → Bool) : Ent := fun args pre => match args, pre with
  | [.agg [.int .i64 k, .int .i64 m, .int .i64 e, .str s, .bool b, .int .i64 r, .int .i64 h, .int .i64 w, l, .int .i64 f, .nilslice, .nilslice], .int .i64 i, .int .i64 j], [o] =>
    match rowsIn 0 l o with
    | some (a, R) => .chk (k == 5) (.chk (decide (okRows a R)) (.ret (vR (getA tx m e s b r h w f a R i j)) [o]))
    | none => .fail
  | [.agg [.int .i64 k, .int .i64 m, .int .i64 e, .str s, .bool b, .int .i64 r, .int .i64 h, .int .i64 w, .nilslice, .int .i64 f, .nilslice, .nilslice], .int .i64 i, .int .i64 j], [] =>
    .chk (decide (0 ≤ k ∧ k ≤ 4)) (.chk (decide (s.length ≤ 1000000)) (.ret (vR (bcond (rightF tx k m e s b r h w f) (bcond (decide (i < 0 ∨ j < 0)) (errR 7) (mkR k m e s b r h w f)) (errR 3))) []))
  | _, _ => .fail
section
variable {tx : List UInt8 → Bool} (ht : EntOK Tryz.prog 51 (eIsT tx))
include ht
theorem tGet_ok : TabOK Tryz.prog (tGet tx) := .cons (eRig_ok ht) (.cons eCop_ok .nil)
open Classical in
theorem get_meets {m e : Int} {s : List UInt8} {b : Bool} {r h w f : Int} {a : Nat} {R : List (List CV)} {i j : Int} (hR : okRows a R) :
    Meets Tryz.prog 22 [vL 5 m e s b r h w (.dsl 0 a) f, .int .i64 i, .int .i64 j] [.flatR false shV R] (vR (getA tx m e s b r h w f a R i j)) [.flatR false shV R] := by
  refine meets_ent (pre := [fR R]) (post := [fR R]) (tGet_ok ht) host ((get_a tx m e s b r h w f a R i j).trans ?_) nolv_ok
  rw [chkT (decide_eq_true hR)]; unfold getA
  cases hq : rightA tx m e s b r h w f a R with
  | false => rw [Bool.not_false, brT rfl]; rfl
  | true =>
    rw [Bool.not_true, brF rfl]; simp only [bcond]
    have hg : gridB tx h w a R = true := by unfold rightA at hq; rw [Bool.and_eq_true] at hq; exact hq.1
    unfold gridB at hg; rw [Bool.and_eq_true] at hg
    obtain ⟨h1, h2, h3, h4⟩ := of_decide_eq_true hg.1
    unfold atG
    by_cases hi : 0 ≤ i
    · rw [brF (decide_eq_false (by omega))]
      by_cases hj : 0 ≤ j
      · rw [brF (decide_eq_false (by omega))]
        have key := fun (i' j' : Int) (hi' : 0 ≤ i') (hj' : 0 ≤ j') => leafG_run (R := R) h1 h2 h3 h4 hR.1 hi' hj'
        have n1 : ¬(i < 0) := by omega
        have n2 : ¬(j < 0) := by omega
        simp only [n1, n2, false_or]
        by_cases e1 : h = 1 <;> by_cases e2 : w = 1
        · rw [brT (beq_iff_eq.2 e1), brT (beq_iff_eq.2 e2), if_pos e1, if_pos e2]; exact key 0 0 (by omega) (by omega)
        · rw [brT (beq_iff_eq.2 e1), brF (beq_eq_false_iff_ne.2 e2), if_pos e1, if_neg e2]; exact key 0 j (by omega) hj
        · rw [brF (beq_eq_false_iff_ne.2 e1), brT (beq_iff_eq.2 e2), if_neg e1, if_pos e2]; exact key i 0 hi (by omega)
        · rw [brF (beq_eq_false_iff_ne.2 e1), brF (beq_eq_false_iff_ne.2 e2), if_neg e1, if_neg e2]; exact key i j hi hj
      · rw [brT (decide_eq_true (by omega)), if_pos (by omega)]; rfl
    · rw [brT (decide_eq_true (by omega)), if_pos (by omega)]; rfl
theorem getp_meets {k m e : Int} {s : List UInt8} {b : Bool} {r h w f : Int} {i j : Int} (hk : 0 ≤ k ∧ k ≤ 4) (hs : s.length ≤ 1000000) :
    Meets Tryz.prog 22 [vL k m e s b r h w .nilslice f, .int .i64 i, .int .i64 j] [] (vR (bcond (rightF tx k m e s b r h w f) (bcond (decide (i < 0 ∨ j < 0)) (errR 7) (mkR k m e s b r h w f)) (errR 3))) [] := by
  refine meets_ent (pre := []) (post := []) (tGet_ok ht) host ((get_p tx k m e s b r h w f i j (by omega)).trans ?_) nolv_ok
  rw [chkT (decide_eq_true hs)]
  cases hq : rightF tx k m e s b r h w f with
  | false => rw [Bool.not_false, brT rfl]; rfl
  | true =>
    rw [Bool.not_true, brF rfl]
    by_cases hi : i < 0
    · rw [brT (decide_eq_true hi), decide_eq_true (show i < 0 ∨ j < 0 from .inl hi)]; rfl
    · rw [brF (decide_eq_false hi)]
      by_cases hj : j < 0
      · rw [brT (decide_eq_true hj), decide_eq_true (show i < 0 ∨ j < 0 from .inr hj)]; rfl
      · rw [brF (decide_eq_false hj), decide_eq_false (show ¬(i < 0 ∨ j < 0) by omega)]; rfl
open Classical in
theorem eGet_ok : EntOK Tryz.prog 22 (eGet tx) := fun args pre => by
  unfold eGet
  split
  · split
    · rename_i k m e s b r h w l f i j o _ a R hs
      refine ⟨fun g1 => ⟨fun g => ?_, fun _ => trivial⟩, fun _ => trivial⟩
      obtain rfl := beq_iff_eq.1 g1
      exact meets_rows (j := 0) hs (get_meets ht (of_decide_eq_true g)) rfl fun E xs hx => denL_L1 (fun y hy => rowsIn_den hs hy) _ xs hx
    · trivial
  · exact ⟨fun g1 => ⟨fun g => getp_meets ht (of_decide_eq_true g1) (of_decide_eq_true g), fun _ => trivial⟩, fun _ => trivial⟩
  · trivial
-- Make
omit ht in
open Classical in
theorem mak_comes (tx : List UInt8 → Bool) (h w : Int) (a : Nat) (R : List (List CV)) : Comes (tGet tx) nolv 19 [.int .i64 h, .int .i64 w, .dsl 0 a] [fR R]
  (.chk (decide (okRows a R)) (.br (!(rightA tx 0 0 [] false 0 h w 0 a R)) (.ret (.tuple [vL 0 0 0 [] false 0 0 0 .nilslice 0, .int .i64 30]) [fR R]) (.chk (decide (a ≤ R.length ∧ a < 1000000000 ∧ 0 < a)) (.ret (.tuple [vL 5 0 0 [] false 0 h w (.vec 1 a) 0, .int .i64 0]) [fR R, vR34 (cpR R a)])))) := by unfold Comes; kernel_rfl
end
open Classical in
noncomputable def eMak (tx : List UInt8 → Bool) : Ent := fun args pre => match args, pre with
  | [.int .i64 h, .int .i64 w, l], [o] => match rowsIn 0 l o with
    | some (a, R) => .chk (decide (okRows a R)) (.br (rightA tx 0 0 [] false 0 h w 0 a R) (.ret (.tuple [vL 5 0 0 [] false 0 h w (.vec 1 a) 0, .int .i64 0]) [o, vR34 (cpR R a)]) (.ret (.tuple [vL 0 0 0 [] false 0 0 0 .nilslice 0, .int .i64 30]) [o]))
    | none => .fail
  | _, _ => .fail
open Classical in
theorem eMak_ok {tx : List UInt8 → Bool} (ht : EntOK Tryz.prog 51 (eIsT tx)) : EntOK Tryz.prog 19 (eMak tx) := fun args pre => by
  unfold eMak
  split
  · split
    · rename_i h w l o _ a R hs
      refine ⟨fun g => ?_, fun _ => trivial⟩
      have key := (mak_comes tx h w a R)
      have dn : ∀ E xs, denL E [.int .i64 h, .int .i64 w, l] = some xs → denL E [.int .i64 h, .int .i64 w, .dsl 0 a] = some xs := fun E => denL_tl (denL_tl fun xs hx => by
        obtain ⟨x, zs, h1, h2, rfl⟩ := denL_cons.1 hx
        exact denL_cons.2 ⟨x, zs, rowsIn_den hs h1, h2, rfl⟩)
      refine ⟨fun q => ?_, fun q => ?_⟩
      · refine meets_rows (j := 0) hs (pre := [.flatR false shV R]) (post := [.flatR false shV R, (vR34 (cpR R a)).toA]) (meets_ent (pre := [fR R]) (post := [fR R, vR34 (cpR R a)]) (tGet_ok ht) host (key.trans ?_) nolv_ok) rfl dn
        have hg : gridB tx h w a R = true := by unfold rightA at q; rw [Bool.and_eq_true] at q; exact q.1
        unfold gridB at hg; rw [Bool.and_eq_true] at hg
        obtain ⟨h1, h2, h3, h4⟩ := of_decide_eq_true hg.1
        have hp : 0 < h * w := Int.mul_pos (by omega) (by omega)
        have g' := of_decide_eq_true g
        rw [chkT g, q, Bool.not_true, brF rfl, chkT (decide_eq_true ⟨g'.1, g'.2.1, by omega⟩)]; rfl
      · refine meets_rows (j := 0) hs (pre := [.flatR false shV R]) (post := [.flatR false shV R]) (meets_ent (pre := [fR R]) (post := [fR R]) (tGet_ok ht) host (key.trans ?_) nolv_ok) rfl dn
        rw [chkT g, q, Bool.not_false, brT rfl]; rfl
    · trivial
  · trivial
-- Same
def eEq : Ent := fun args pre => match args, pre with
  | [v, v', .func g [] []], [o, o'] => match rowsIn 0 v o, rowsIn 1 v' o' with
    | some (a, R), some (b, S) => .chk (Nat.beq g 26) (.chk (decide (a ≤ R.length ∧ b ≤ S.length ∧ a < 1000000000)) (.ret (.bool (eqRows a b R S)) [o, o']))
    | _, _ => .fail
  | _, _ => .fail
theorem eEq_ok : EntOK Tryz.prog 64 eEq := fun args pre => by
  unfold eEq
  split
  · split
    · rename_i v v' g o o' _ _ a R b S hs hs'
      refine ⟨fun g1 => ⟨fun g2 => ?_, fun _ => trivial⟩, fun _ => trivial⟩
      obtain rfl := Nat.eq_of_beq_eq_true g1
      have g2 := of_decide_eq_true g2
      have h1 := meets_rows (j := 0) hs (eqf_meets (a := a) (b := b) g2.1 g2.2.1 g2.2.2) rfl (args' := [v, .dsl 1 b, .func 26 [] []]) fun E xs hx => by
        obtain ⟨x, zs, h1, h2, rfl⟩ := denL_cons.1 hx
        exact denL_cons.2 ⟨x, zs, rowsIn_den hs h1, h2, rfl⟩
      exact meets_rows (j := 1) hs' h1 rfl (fun E => denL_tl fun xs hx => by
        obtain ⟨x, zs, h1, h2, rfl⟩ := denL_cons.1 hx
        exact denL_cons.2 ⟨x, zs, rowsIn_den hs' h1, h2, rfl⟩)
    · trivial
  · trivial
def tEq : Tab := [(64, eEq)]
section
variable (k m e : Int) (s : List UInt8) (b : Bool) (r h w f k' m' e' : Int) (s' : List UInt8) (b' : Bool) (r' h' w' f' : Int) (a a' : Nat) (R S : List (List CV))
theorem same_aa : Comes tEq nolv 26 [vL k m e s b r h w (.dsl 0 a) f, vL k' m' e' s' b' r' h' w' (.dsl 1 a') f'] [fR R, fR S]
  (sameT k m e s b r h w f k' m' e' s' b' r' h' w' f' [fR R, fR S] (.chk (decide (a ≤ R.length ∧ a' ≤ S.length ∧ a < 1000000000)) (.br (eqRows a a' R S) (.ret (.bool true) [fR R, fR S]) (.ret (.bool false) [fR R, fR S])))) := by unfold Comes; kernel_rfl
theorem same_ap : Comes tEq nolv 26 [vL k m e s b r h w (.dsl 0 a) f, vL k' m' e' s' b' r' h' w' .nilslice f'] [fR R]
  (sameT k m e s b r h w f k' m' e' s' b' r' h' w' f' [fR R] .fail) := by unfold Comes; kernel_rfl
theorem same_pa : Comes tEq nolv 26 [vL k m e s b r h w .nilslice f, vL k' m' e' s' b' r' h' w' (.dsl 0 a) f'] [fR R]
  (sameT k m e s b r h w f k' m' e' s' b' r' h' w' f' [fR R] .fail) := by unfold Comes; kernel_rfl
end
theorem sameF_ne {k m e : Int} {s : List UInt8} {b : Bool} {r h w f k' m' e' : Int} {s' : List UInt8} {b' : Bool} {r' h' w' f' : Int} (hk : k ≠ k') : sameF k m e s b r h w f k' m' e' s' b' r' h' w' f' = false := by unfold sameF; rw [beq_eq_false_iff_ne.2 hk]; rfl
def eSam : Ent := fun args pre => match args, pre with
  | [.agg [.int .i64 k, .int .i64 m, .int .i64 e, .str s, .bool b, .int .i64 r, .int .i64 h, .int .i64 w, l, .int .i64 f, .nilslice, .nilslice], .agg [.int .i64 k', .int .i64 m', .int .i64 e', .str s', .bool b', .int .i64 r', .int .i64 h', .int .i64 w', l', .int .i64 f', .nilslice, .nilslice]], [o, o'] =>
    match rowsIn 0 l o, rowsIn 1 l' o' with
    | some (a, R), some (a', S) => .chk (decide (a ≤ R.length ∧ a' ≤ S.length ∧ a < 1000000000)) (.ret (.bool (sameF k m e s b r h w f k' m' e' s' b' r' h' w' f' && eqRows a a' R S)) [o, o'])
    | _, _ => .fail
  | [.agg [.int .i64 k, .int .i64 m, .int .i64 e, .str s, .bool b, .int .i64 r, .int .i64 h, .int .i64 w, l, .int .i64 f, .nilslice, .nilslice], .agg [.int .i64 k', .int .i64 m', .int .i64 e', .str s', .bool b', .int .i64 r', .int .i64 h', .int .i64 w', l', .int .i64 f', .nilslice, .nilslice]], [o] =>
    match rowsIn 0 l o with
    | some (a, R) => match l' with
      | .nilslice => .chk (k != k') (.ret (.bool false) [o])
      | _ => .fail
    | none => match rowsIn 0 l' o with
      | some (a, R) => match l with
        | .nilslice => .chk (k != k') (.ret (.bool false) [o])
        | _ => .fail
      | none => .fail
  | _, _ => eSamP args pre
theorem eSam_ok : EntOK Tryz.prog 26 eSam := fun args pre => by
  unfold eSam
  have T : TabOK Tryz.prog tEq := .cons eEq_ok .nil
  split
  · split
    · rename_i k m e s b r h w l f k' m' e' s' b' r' h' w' l' f' o o' _ _ a R a' S hs hs'
      refine ⟨fun g => ?_, fun _ => trivial⟩
      have h1 := meets_rows (j := 0) hs (pre := [.flatR false shV R, .flatR false shV S]) (post := [.flatR false shV R, .flatR false shV S]) (res := .bool (sameF k m e s b r h w f k' m' e' s' b' r' h' w' f' && eqRows a a' R S)) (meets_ent (pre := [fR R, fR S]) (post := [fR R, fR S]) T host ((same_aa k m e s b r h w f k' m' e' s' b' r' h' w' f' a a' R S).trans (by
        rw [sameT_run]
        cases hq : sameF k m e s b r h w f k' m' e' s' b' r' h' w' f' with
        | false => rw [brF rfl]; rfl
        | true =>
          rw [brT rfl, chkT g, Bool.true_and]
          cases hq : eqRows a a' R S with
          | true => rw [brT rfl]; rfl
          | false => rw [brF rfl]; rfl)) nolv_ok) rfl (args' := [vL k m e s b r h w l f, vL k' m' e' s' b' r' h' w' (.dsl 1 a') f']) fun E => denL_L1 (fun y hy => rowsIn_den hs hy) _
      exact meets_rows (j := 1) hs' h1 rfl fun E => denL_tl (denL_L1 (fun y hy => rowsIn_den hs' hy) [])
    · trivial
  · rename_i k m e s b r h w l f k' m' e' s' b' r' h' w' l' f' o
    split
    · rename_i a R hs
      split
      · refine ⟨fun g => ?_, fun _ => trivial⟩
        exact meets_rows (j := 0) hs (pre := [.flatR false shV R]) (post := [.flatR false shV R]) (meets_ent (pre := [fR R]) (post := [fR R]) T host ((same_ap k m e s b r h w f k' m' e' s' b' r' h' w' f' a R).trans (by rw [sameT_run, sameF_ne (bne_iff_ne.1 g), brF rfl]; rfl)) nolv_ok) rfl fun E => denL_L1 (fun y hy => rowsIn_den hs hy) _
      · trivial
    · split
      · rename_i a R hs
        split
        · refine ⟨fun g => ?_, fun _ => trivial⟩
          exact meets_rows (j := 0) hs (pre := [.flatR false shV R]) (post := [.flatR false shV R]) (meets_ent (pre := [fR R]) (post := [fR R]) T host ((same_pa k m e s b r h w f k' m' e' s' b' r' h' w' f' a R).trans (by rw [sameT_run, sameF_ne (bne_iff_ne.1 g), brF rfl]; rfl)) nolv_ok) rfl fun E => denL_tl (denL_L1 (fun y hy => rowsIn_den hs hy) _)
        · trivial
      · trivial
  · exact eSamP_ok _ _
end Go.Proofs.YtdomenmfkbfakaaGreatDoor

/- Law 3: which of n things; a right text out of any bytes. -/
set_option linter.unusedVariables false
set_option linter.unusedSimpArgs false
namespace Go.Proofs.YtdomenmfkbfakaaGreatDoor
open Go Sx
-- pick
theorem pk_comes (c n : Int) : Comes [] nolv 24 [.int .i64 c, .int .i64 n] [] (.br (decide (c < 0)) (.chk (n != 0) (.ret (.int .i64 (Int.tmod (w64 (0 - w64 (c + 1))) n)) [])) (.chk (n != 0) (.ret (.int .i64 (Int.tmod c n)) []))) := by unfold Comes; kernel_rfl
def ePick : Ent := fun args pre => match args, pre with
  | [.int .i64 c, .int .i64 n], [] => .chk (inI c) (.chk (decide (0 < n ∧ n < 1000000000)) (.ret (.int .i64 (pickS c n)) []))
  | _, _ => .fail
theorem ePick_ok : EntOK Tryz.prog 24 ePick := fun args pre => by
  unfold ePick
  split
  · rename_i c n
    refine ⟨fun g1 => ⟨fun g2 => ?_, fun _ => trivial⟩, fun _ => trivial⟩
    have g2 := of_decide_eq_true g2
    have hc := inI_iff.1 g1
    refine of_run (x := .br (decide (c < 0)) _ _) (y := .ret (.int .i64 (pickS c n)) []) (ans_comes .nil (pk_comes c n)) fun r hr => ?_
    rw [← hr]
    unfold pickS
    by_cases h : c < 0
    · rw [brT (decide_eq_true h), chkT (bne_iff_ne.2 (by omega)), if_pos h, w64_of (a := c + 1) (inI_iff.2 ⟨by omega, by omega⟩), w64_of (a := 0 - (c + 1)) (inI_iff.2 ⟨by omega, by omega⟩), Int.zero_sub]
    · rw [brF (decide_eq_false h), chkT (bne_iff_ne.2 (by omega)), if_neg h]
  · trivial
-- Text
def sTx (s o : List UInt8) (i : Int) : PState := ⟨some (.str s) :: none :: none :: some (.str o) :: some (.int .i64 i) :: nn 42, nn 64⟩
def sTxX (o : List UInt8) : PState := ⟨none :: none :: none :: some (.str o) :: nn 43, nn 64⟩
noncomputable abbrev loopTx1 : Code := (loopBodies (bodyOf Tryz.f32)).headD .skip
def sgT (s : List UInt8) (i : Int) : Nat := signN (List.take (s.length - i.toNat) (List.drop i.toNat s))
def pcT (s : List UInt8) (i : Int) : List UInt8 := List.take ((w64 (i + sgT s i)).toNat - i.toNat) (List.drop i.toNat s)
def takeT (s o : List UInt8) (i : Int) : Option (Ex × PState) :=
  chks (some (.normal, sTx s (o ++ pcT s i) (w64 (i + sgT s i)))) [decide (0 ≤ i ∧ 0 ≤ w64 (i + sgT s i) ∧ i.toNat ≤ (w64 (i + sgT s i)).toNat ∧ (w64 (i + sgT s i)).toNat ≤ s.length), decide (o.length + (pcT s i).length ≤ 9223372036854775807)]
theorem rTx (s o : List UInt8) (i : Int) : code (ent Tryz.prog tab6 nolv 64 1 20) Tryz.prog {} 0 64 1 loopTx1 (sTx s o i) (endK 0 64 (fun n => hasN [0, 3, 4] n) (fun n => hasN [3] n))
  = bcond (decide (i < (s.length : Int))) (bcond (decide ((o.length : Int) < 37)) (chks (bcond (((sgT s i : Nat) : Int) == 0) (some (.normal, sTx s o (up1 i)))
      (chks (bcond (decide (byteAt s i.toNat < 32)) (some (.normal, sTx s o (up1 i))) (chks (bcond (byteAt s i.toNat == 127) (some (.normal, sTx s o (up1 i))) (takeT s o i)) [decide (0 ≤ i ∧ i.toNat < s.length)])) [decide (0 ≤ i ∧ i.toNat < s.length)])) [decide (0 ≤ i ∧ i.toNat ≤ s.length)])
      (some (.exit 0, sTxX o))) (some (.exit 0, sTxX o)) := by kernel_rfl
/-- Is a sign none, or none that a text has? -/
def badT (s : List UInt8) (p : Nat) : Bool := (signN (s.drop p) == 0) || (decide ((s.getD p 0).toNat < 32) || ((s.getD p 0).toNat == 127))
def txS (s : List UInt8) : Nat → Nat → List UInt8 → List UInt8
  | 0, _, o => o
  | n + 1, p, o => bcond (decide (p < s.length ∧ o.length < 37)) (bcond (badT s p) (txS s n (p + 1) o) (txS s n (p + signN (s.drop p)) (o ++ (s.drop p).take (signN (s.drop p))))) o
theorem byteAt_nat (s : List UInt8) (p : Nat) : byteAt s p = ((s.getD p 0).toNat : Int) := rfl
theorem txS_done {s : List UInt8} {n p : Nat} {o : List UInt8} (h : ¬(p < s.length ∧ o.length < 37)) : txS s n p o = o := by
  cases n with
  | zero => rfl
  | succ n => unfold txS; rw [bcF (decide_eq_false h)]
theorem sign_le4 (L : List UInt8) : signN L ≤ 4 := by
  unfold signN; repeat' split
  all_goals omega
theorem up1_63 {j : Nat} (h : j < 9223372036854775807) : up1 (j : Int) = ((j + 1 : Nat) : Int) := by unfold up1; rw [i64_in (by omega) (by omega)]; rfl
theorem roundTx {s o : List UInt8} {p n : Nat} (hs : s.length ≤ 9223372036854775807) (hn : s.length ≤ p + n) :
    (∃ q o', (s.length ≤ q + (n - 1) ∧ 0 < n ∧ txS s n p o = txS s (n - 1) q o') ∧ code (ent Tryz.prog tab6 nolv 64 1 20) Tryz.prog {} 0 64 1 loopTx1 (sTx s o p) (endK 0 64 (fun n => hasN [0, 3, 4] n) (fun n => hasN [3] n)) = some (.normal, sTx s o' q)) ∨
    code (ent Tryz.prog tab6 nolv 64 1 20) Tryz.prog {} 0 64 1 loopTx1 (sTx s o p) (endK 0 64 (fun n => hasN [0, 3, 4] n) (fun n => hasN [3] n)) = some (.exit 0, sTxX (txS s n p o)) := by
  have rd := rTx s o (p : Int)
  by_cases h1 : p < s.length
  · rw [bcT (b := decide ((p : Int) < (s.length : Int))) (decide_eq_true (by omega))] at rd
    by_cases h2 : o.length < 37
    · have hk4 := sign_le4 (s.drop p)
      have hk := signN_le (s.drop p)
      rw [List.length_drop] at hk
      have e : sgT s (p : Int) = signN (s.drop p) := by unfold sgT; rw [Int.toNat_natCast, List.take_of_length_le (by simp)]
      have ew : w64 ((p : Int) + (signN (s.drop p) : Nat)) = ((p + signN (s.drop p) : Nat) : Int) := by rw [w64_of (inI_iff.2 ⟨by omega, by omega⟩)]; push_cast; rfl
      have ep : pcT s (p : Int) = (s.drop p).take (signN (s.drop p)) := by unfold pcT; rw [e, ew, Int.toNat_natCast, Int.toNat_natCast, Nat.add_sub_cancel_left]
      cases n with
      | zero => omega
      | succ n =>
      rw [bcT (b := decide ((o.length : Int) < 37)) (decide_eq_true (by omega)), chks_true (by simp; omega), e, up1_63 (by omega), Int.toNat_natCast, byteAt_nat] at rd
      left
      rw [txS, bcT (b := decide (p < s.length ∧ o.length < 37)) (decide_eq_true ⟨h1, h2⟩), Nat.add_sub_cancel]
      have hx : ∀ c ∈ [decide (0 ≤ (p : Int) ∧ p < s.length)], c = true := by simp; omega
      by_cases h3 : signN (s.drop p) = 0
      · rw [bcT (beq_iff_eq.2 (by omega))] at rd
        exact ⟨p + 1, o, ⟨by omega, by omega, by unfold badT; rw [h3]; rfl⟩, rd⟩
      rw [bcF (beq_eq_false_iff_ne.2 (by omega)), chks_true hx] at rd
      by_cases h4 : (s.getD p 0).toNat < 32
      · rw [bcT (decide_eq_true (by omega))] at rd
        exact ⟨p + 1, o, ⟨by omega, by omega, by unfold badT; rw [decide_eq_true h4, Bool.true_or, Bool.or_true]; rfl⟩, rd⟩
      rw [bcF (decide_eq_false (by omega)), chks_true hx] at rd
      by_cases h5 : (s.getD p 0).toNat = 127
      · rw [bcT (beq_iff_eq.2 (by omega))] at rd
        exact ⟨p + 1, o, ⟨by omega, by omega, by unfold badT; rw [h5]; simp [bcond]⟩, rd⟩
      rw [bcF (beq_eq_false_iff_ne.2 (by omega))] at rd
      unfold takeT at rd
      rw [ep, e, ew, chks_true (by simp; omega)] at rd
      refine ⟨p + signN (s.drop p), o ++ (s.drop p).take (signN (s.drop p)), ⟨by omega, by omega, ?_⟩, rd⟩
      unfold badT; rw [beq_eq_false_iff_ne.2 h3, decide_eq_false h4, beq_eq_false_iff_ne.2 h5]; rfl
    · rw [bcF (b := decide ((o.length : Int) < 37)) (decide_eq_false (by omega))] at rd
      exact .inr (by rw [rd, txS_done (by omega)])
  · rw [bcF (b := decide ((p : Int) < (s.length : Int))) (decide_eq_false (by omega))] at rd
    exact .inr (by rw [rd, txS_done (by omega)])
theorem loopTx {s : List UInt8} (hs : s.length ≤ 9223372036854775807) : Tri Tryz.prog (.loop loopTx1) (sTx s [] 0).toA (.exit 0) (sTxX (txS s s.length 0 [])).toA 0 := by
  have key := loop_rounds (ent_sound (T := tab6) tab6_ok host nolv_ok (NF := 64) (m := 1) 20) (NF := 64) (m := 1) (x := loopTx1) (K := 0) loops_none (fun n => hasN [0, 3, 4] n) (fun n => hasN [3] n) (ι := { q : Nat × Nat × List UInt8 // s.length ≤ q.1 + q.2.1 }) (fun j => sTx s j.1.2.2 (j.1.1 : Int)) (fun j => j.1.2.1) (fun j => (.exit 0, sTxX (txS s j.1.2.1 j.1.1 j.1.2.2))) ?_ (fun j => by simp) ⟨(0, s.length, []), by simp⟩
  · exact key
  rintro ⟨⟨p, n, o⟩, hn⟩
  simp only at hn ⊢
  rcases roundTx (o := o) hs hn with ⟨q, o', ⟨h1, h2, h3⟩, h4⟩ | h
  · exact .inl ⟨⟨(q, n - 1, o'), h1⟩, by show n - 1 < n; omega, by simp only [h3], h4⟩
  · exact .inr h
def outTx (c : Bool) (o : List UInt8) : LAns := .chk c (.out (.exit 0) (sTxX o))
noncomputable def lvTx (s : List UInt8) (c : Bool) (o : List UInt8) : FuncId → Lv := lvOf 32 (fun _ => some [0, 3, 4]) (oneL 3 (eAt 0 (sTx s [] 0) (outTx c o)))
theorem tx_comes (s : List UInt8) (c : Bool) (o : List UInt8) : Comes [] (lvTx s c o) 32 [.str s] [] (.chk (eqSt (sTx s [] 0) (sTx s [] 0)) (.chk c (.ret (.str o) []))) := by unfold Comes; kernel_rfl
def textL (s : List UInt8) : List UInt8 := txS s s.length 0 []
def eTx (f : List UInt8 → List UInt8) : Ent := fun args pre => match args, pre with
  | [.str s], [] => .chk (decide (s.length ≤ 9223372036854775807)) (.ret (.str (f s)) [])
  | _, _ => .fail
theorem eTx_ok : EntOK Tryz.prog 32 (eTx textL) := fun args pre => by
  unfold eTx
  split
  · rename_i s
    refine ⟨fun g => ?_, fun _ => trivial⟩
    exact meets_ent (pre := []) (post := []) .nil host ((tx_comes s true (textL s)).trans (by rw [chkT (eqSt_refl _), chkT rfl]; rfl)) (lvOne_ok (x := loopTx1) Tryz.func32 (by kernel_rfl) fun K t => eAt_ok (a := outTx true (textL s)) ⟨fun _ => loopTx (of_decide_eq_true g), fun _ => trivial⟩ K t)
  · trivial
end Go.Proofs.YtdomenmfkbfakaaGreatDoor

/- Law 3: the texts of the law are right; plain values of raw numbers. -/
set_option linter.unusedVariables false
set_option linter.unusedSimpArgs false
namespace Go.Proofs.YtdomenmfkbfakaaGreatDoor
open Go Sx
/-- So many bytes decide of the first sign. -/
theorem getD_app {A t : List UInt8} {i : Nat} (h : i < A.length) : (A ++ t).getD i 0 = A.getD i 0 := by
  simp [List.getD_eq_getElem?_getD, List.getElem?_append_left h]
theorem getD_tk {L : List UInt8} {k i : Nat} (h : i < k) : (L.take k).getD i 0 = L.getD i 0 := by
  simp [List.getD_eq_getElem?_getD, List.getElem?_take, h]
theorem sign_app (L t : List UInt8) (h : signN L ≠ 0) : signN (L.take (signN L) ++ t) = signN L := by
  have hle := signN_le L
  have hz := sizeN_cases (L.getD 0 0).toNat
  have hlen : (L.take (signN L)).length = signN L := by rw [List.length_take]; omega
  have hg : ∀ i, i < signN L → (L.take (signN L) ++ t).getD i 0 = L.getD i 0 := fun i hi => by rw [getD_app (by omega), getD_tk hi]
  have hne : L.take (signN L) ++ t ≠ [] := fun e => by have := congrArg List.length e; rw [List.length_append, hlen] at this; simp at this; omega
  have hl2 : signN L ≤ (L.take (signN L) ++ t).length := by rw [List.length_append, hlen]; omega
  have g0 := hg 0 (by omega)
  generalize L.take (signN L) ++ t = M at *
  unfold signN at h hg hl2 hle ⊢
  rw [if_neg hne, g0]
  have hnL : L ≠ [] := fun e => h (by rw [if_pos e])
  rw [if_neg hnL] at h hg hl2 hle ⊢
  by_cases c1 : (L.getD 0 0).toNat < 128
  · rw [if_pos c1, if_pos c1]
  rw [if_neg c1] at h hg hl2 hle ⊢
  rw [if_neg c1]
  by_cases c2 : sizeN (L.getD 0 0).toNat = 0
  · rw [if_pos c2] at h; exact absurd rfl h
  rw [if_neg c2] at h hg hl2 hle ⊢
  rw [if_neg c2]
  by_cases c3 : L.length < sizeN (L.getD 0 0).toNat
  · rw [if_pos c3] at h; exact absurd rfl h
  rw [if_neg c3] at h hg hl2 hle ⊢
  by_cases c4 : (L.getD 1 0).toNat < loN (L.getD 0 0).toNat ∨ hiN (L.getD 0 0).toNat < (L.getD 1 0).toNat
  · rw [if_pos c4] at h; exact absurd rfl h
  rw [if_neg c4] at h hg hl2 hle ⊢
  by_cases c5 : sizeN (L.getD 0 0).toNat = 2
  · rw [if_pos c5] at h hg hl2 hle ⊢
    rw [if_neg (by omega), hg 1 (by omega), if_neg c4, if_pos c5]
  rw [if_neg c5] at h hg hl2 hle ⊢
  by_cases c6 : (L.getD 2 0).toNat < 128 ∨ 191 < (L.getD 2 0).toNat
  · rw [if_pos c6] at h; exact absurd rfl h
  rw [if_neg c6] at h hg hl2 hle ⊢
  by_cases c7 : sizeN (L.getD 0 0).toNat = 3
  · rw [if_pos c7] at h hg hl2 hle ⊢
    rw [if_neg (by omega), hg 1 (by omega), if_neg c4, if_neg c5, hg 2 (by omega), if_neg c6, if_pos c7]
  rw [if_neg c7] at h hg hl2 hle ⊢
  by_cases c8 : (L.getD 3 0).toNat < 128 ∨ 191 < (L.getD 3 0).toNat
  · rw [if_pos c8] at h; exact absurd rfl h
  rw [if_neg c8] at h hg hl2 hle ⊢
  rw [if_neg (by omega), hg 1 (by omega), if_neg c4, if_neg c5, hg 2 (by omega), if_neg c6, if_neg c7, hg 3 (by omega), if_neg c8]
/-- A sequence of signs that a text has. -/
inductive Sg : List UInt8 → Prop
  | nil : Sg []
  | cons {L t : List UInt8} (h : signN L ≠ 0) (h1 : ¬(L.getD 0 0).toNat < 32) (h2 : (L.getD 0 0).toNat ≠ 127) (ht : Sg t) : Sg (L.take (signN L) ++ t)
theorem Sg.snoc {o L : List UInt8} (ho : Sg o) (h : signN L ≠ 0) (h1 : ¬(L.getD 0 0).toNat < 32) (h2 : (L.getD 0 0).toNat ≠ 127) : Sg (o ++ L.take (signN L)) := by
  induction ho with
  | nil => have := Sg.cons h h1 h2 .nil; rwa [List.append_nil] at this
  | cons a b c _ ih => rw [List.append_assoc]; exact .cons a b c ih
theorem drop_getD0 (l : List UInt8) (p : Nat) : (l.drop p).getD 0 0 = l.getD p 0 := by simp [List.getD_eq_getElem?_getD]
theorem Sg.txt {l : List UInt8} : ∀ (n p : Nat), Sg (l.drop p) → txtB l n p = true
  | 0, p, _ => rfl
  | n + 1, p, h => by
    unfold txtB
    by_cases hp : p < l.length
    · generalize hd : l.drop p = D at h
      cases h with
      | nil => have := congrArg List.length hd; rw [List.length_drop] at this; simp at this; omega
      | @cons L t a b c ht =>
        have e0 : l.getD p 0 = L.getD 0 0 := by
          rw [← drop_getD0, hd, getD_app (by rw [List.length_take]; have := signN_le L; omega), getD_tk (by omega)]
        have es : signN (l.drop p) = signN L := by rw [hd]; exact sign_app L t a
        rw [bcT (decide_eq_true hp), sign_app L t a, bcF (beq_eq_false_iff_ne.2 a), e0, bcF (decide_eq_false b), bcF (beq_eq_false_iff_ne.2 c)]
        refine Sg.txt n _ ?_
        have : l.drop (p + signN L) = t := by
          rw [← List.drop_drop, hd, List.drop_append_of_le_length (by rw [List.length_take]; have := signN_le L; omega), List.drop_take, Nat.sub_self, List.take_zero, List.nil_append]
        rw [this]; exact ht
    · rw [bcF (decide_eq_false hp)]
theorem txS_ok {s : List UInt8} : ∀ (n p : Nat) (o : List UInt8), Sg o → o.length ≤ 40 → Sg (txS s n p o) ∧ (txS s n p o).length ≤ 40
  | 0, p, o, h1, h2 => ⟨h1, h2⟩
  | n + 1, p, o, h1, h2 => by
    unfold txS
    by_cases hc : p < s.length ∧ o.length < 37
    · rw [bcT (decide_eq_true hc)]
      cases hb : badT s p with
      | true => exact txS_ok n _ o h1 h2
      | false =>
        unfold badT at hb
        simp only [Bool.or_eq_false_iff, beq_eq_false_iff_ne, decide_eq_false_iff_not] at hb
        refine txS_ok n _ _ (h1.snoc hb.1 (by rw [drop_getD0]; exact hb.2.1) (by rw [drop_getD0]; exact hb.2.2)) ?_
        have : signN (s.drop p) ≤ 4 := by
          unfold signN; repeat' split
          all_goals omega
        rw [List.length_append, List.length_take]; omega
    · rw [bcF (decide_eq_false hc)]; exact ⟨h1, h2⟩
theorem Sg.text {l : List UInt8} (h : Sg l) : textB l = true := by
  have h1 := Sg.txt (l := l) l.length 0 h
  obtain ⟨k1, k2⟩ := text_of l l.length 0 (by omega) h1
  unfold textB; rw [k1]; exact k2
theorem textL_ok (s : List UInt8) : textB (textL s) = true ∧ (textL s).length ≤ 40 := by
  have := txS_ok (s := s) s.length 0 [] .nil (by simp)
  exact ⟨this.1.text, this.2⟩
/-- The program's own test. -/
def isTx (l : List UInt8) : Bool := decide (l.length ≤ 200) && textB l
theorem isT_comes (l : List UInt8) : Comes tab5 nolv 51 [.str l] [] (.br (decide ((l.length : Int) ≤ 200)) (.chk (decide (l.length ≤ 9223372036854775807)) (.ret (.bool (textB l)) [])) (.ret (.bool false) [])) := by unfold Comes; kernel_rfl
theorem eIsT_ok : EntOK Tryz.prog 51 (eIsT isTx) := fun args pre => by
  unfold eIsT
  split
  · rename_i l
    refine ⟨fun g => ?_, fun _ => trivial⟩
    refine of_run (x := .br _ _ _) (y := .ret _ _) (ans_comes tab5_ok (isT_comes l)) fun r hr => ?_
    rw [← hr]; unfold isTx
    have := of_decide_eq_true g
    by_cases h : l.length ≤ 200
    · rw [brT (decide_eq_true (by omega)), chkT (decide_eq_true (by omega)), decide_eq_true h, Bool.true_and]
    · rw [brF (decide_eq_false (by omega)), decide_eq_false h, Bool.false_and]
  · trivial
end Go.Proofs.YtdomenmfkbfakaaGreatDoor

/- Law 3: plain values of raw numbers, that are right. -/
set_option linter.unusedVariables false
set_option linter.unusedSimpArgs false
namespace Go.Proofs.YtdomenmfkbfakaaGreatDoor
open Go Sx
abbrev I3 := Int × Int × Int
def eOfF (fo : Int → I3) : Ent := fun args pre => match args, pre with
  | [.int .i64 a], [] => .chk (inI a) (.ret (R3 (fo a)) [])
  | _, _ => .fail
theorem eOfF_ok : EntOK Tryz.prog 35 (eOfF ofR) := fun args pre => by
  unfold eOfF
  split
  · exact ⟨fun g => of_meets _ g, fun _ => trivial⟩
  · trivial
def eDivF (fd : Int → Int → Int → Int → I3) : Ent := fun args pre => match args, pre with
  | [.agg [.int .i64 a, .int .i64 b], .agg [.int .i64 c, .int .i64 d]], [] => .chk (Dq.rightB a b) (.chk (Dq.rightB c d) (.chk (c != 0) (.ret (R3 (fd a b c d)) [])))
  | _, _ => .fail
def divR (a b c d : Int) : I3 := nrR (decide (a < 0) != decide (c < 0)) (wN a b) (wN c d)
theorem eDivF_ok : EntOK Tryz.prog 36 (eDivF divR) := fun args pre => by
  unfold eDivF
  split
  · exact ⟨fun g1 => ⟨fun g2 => ⟨fun g3 => div_meets _ _ _ _ g1 g2 (bne_iff_ne.1 g3), fun _ => trivial⟩, fun _ => trivial⟩, fun _ => trivial⟩
  · trivial
def tVl (fo : Int → I3) (fd : Int → Int → Int → Int → I3) (tf : List UInt8 → List UInt8) : Tab := [(24, ePick), (35, eOfF fo), (36, eDivF fd), (32, eTx tf)]
theorem tVl_ok : TabOK Tryz.prog (tVl ofR divR textL) := .cons ePick_ok (.cons eOfF_ok (.cons eDivF_ok (.cons eTx_ok .nil)))
def rowT (x : List CV) : Ans := .ret (vR x) []
def vlT (r1 r2 : I3) (c1 c2 : Bool) (t : List UInt8) (k m e : Int) (s : List UInt8) (b : Bool) : Ans :=
  .chk (inI k) (.br (pickS k 5 == 1) (.chk (inI m) (.chk (inI (w64 (pickS m 2000001 - 1000000))) (.chk (inI e) (.chk c1 (.chk c2 (.br (r1.2.2 == 0) (.br (r2.2.2 == 0) (rowT (mkR 1 r2.1 r2.2.1 [] false 0 0 0 0)) (rowT (mkR 1 0 0 [] false 0 0 0 0))) (rowT (mkR 1 0 0 [] false 0 0 0 0))))))))
    (.br (pickS k 5 == 2) (.chk (decide (s.length ≤ 9223372036854775807)) (rowT (mkR 2 0 0 t false 0 0 0 0))) (.br (pickS k 5 == 3) (rowT (mkR 3 0 0 [] b 0 0 0 0)) (.br (pickS k 5 == 4) (.chk (inI m) (rowT (mkR 4 0 0 [] false (w64 (1 + pickS m 9)) 0 0 0))) (rowT (mkR 0 0 0 [] false 0 0 0 0))))))
theorem vl_comes (fo : Int → I3) (fd : Int → Int → Int → Int → I3) (tf : List UInt8 → List UInt8) (k m e : Int) (s : List UInt8) (b : Bool) : Comes (tVl fo fd tf) nolv 12 [.agg [.int .i64 k, .int .i64 m, .int .i64 e, .str s, .bool b]] []
  (vlT (fo (w64 (pickS m 2000001 - 1000000))) (fd (fo (w64 (pickS m 2000001 - 1000000))).1 (fo (w64 (pickS m 2000001 - 1000000))).2.1 1 (pickS e 5)) (Dq.rightB (fo (w64 (pickS m 2000001 - 1000000))).1 (fo (w64 (pickS m 2000001 - 1000000))).2.1) (Dq.rightB 1 (pickS e 5)) (tf s) k m e s b) := by unfold Comes; kernel_rfl
def valF (r1 r2 : I3) (t : List UInt8) (k m : Int) (b : Bool) : List CV :=
  bcond (k == 1) (bcond (r1.2.2 == 0) (bcond (r2.2.2 == 0) (mkR 1 r2.1 r2.2.1 [] false 0 0 0 0) (mkR 1 0 0 [] false 0 0 0 0)) (mkR 1 0 0 [] false 0 0 0 0))
    (bcond (k == 2) (mkR 2 0 0 t false 0 0 0 0) (bcond (k == 3) (mkR 3 0 0 [] b 0 0 0 0) (bcond (k == 4) (mkR 4 0 0 [] false (1 + m) 0 0 0) (mkR 0 0 0 [] false 0 0 0 0))))
def numO (m : Int) : I3 := ofR (pickS m 2000001 - 1000000)
def numD (m e : Int) : I3 := divR (numO m).1 (numO m).2.1 1 (pickS e 5)
/-- The value of raw numbers, as a row. -/
def valR (k m e : Int) (s : List UInt8) (b : Bool) : List CV := valF (numO m) (numD m e) (textL s) (pickS k 5) (pickS m 9) b
def eVal (f : Int → Int → Int → List UInt8 → Bool → List CV) : Ent := fun args pre => match args, pre with
  | [.agg [.int .i64 k, .int .i64 m, .int .i64 e, .str s, .bool b]], [] => .chk (inI k) (.chk (inI m) (.chk (inI e) (.chk (decide (s.length ≤ 9223372036854775807)) (.ret (vR (f k m e s b)) []))))
  | _, _ => .fail
theorem one_right {x : Int} (h : 0 ≤ x ∧ x < 5) : Dq.rightB 1 x = true := by
  have : x = 0 ∨ x = 1 ∨ x = 2 ∨ x = 3 ∨ x = 4 := by omega
  rcases this with rfl | rfl | rfl | rfl | rfl <;> rfl
theorem numO_right (m : Int) : Dq.rightB (numO m).1 (numO m).2.1 = true := ofV_right _ _ (nrR_right _ _ _)
theorem numD_right (m e : Int) (h : (numD m e).2.2 = 0) : Dq.rightB (numD m e).1 (numD m e).2.1 = true := nrR_right _ _ _ h
theorem vlT_run {r1 r2 : I3} {c1 c2 : Bool} {t : List UInt8} {k m e : Int} {s : List UInt8} {b : Bool} (hk : inI k = true) (hm : inI m = true) (he : inI e = true) (hs : s.length ≤ 9223372036854775807) (h1 : c1 = true) (h2 : c2 = true) : (vlT r1 r2 c1 c2 t k m e s b).run pure2 = pure2 (vR (valF r1 r2 t (pickS k 5) (pickS m 9) b)) [] := by
  have b1 := pickS_bd (a := m) (n := 2000001) (by decide)
  have b2 := pickS_bd (a := m) (n := 9) (by decide)
  unfold vlT valF
  rw [chkT hk]
  cases q1 : pickS k 5 == 1 with
  | true =>
    rw [brT rfl, chkT hm, chkT (by rw [w64_of (inI_iff.2 ⟨by omega, by omega⟩)]; exact inI_iff.2 ⟨by omega, by omega⟩), chkT he, chkT h1, chkT h2]
    cases r1.2.2 == 0 <;> cases r2.2.2 == 0 <;> rfl
  | false =>
    rw [brF rfl]
    cases q2 : pickS k 5 == 2 with
    | true => rw [brT rfl, chkT (decide_eq_true hs)]; rfl
    | false =>
      rw [brF rfl]
      cases q3 : pickS k 5 == 3 with
      | true => rw [brT rfl]; rfl
      | false =>
        rw [brF rfl]
        cases q4 : pickS k 5 == 4 with
        | true => rw [brT rfl, chkT hm, w64_of (inI_iff.2 ⟨by omega, by omega⟩)]; rfl
        | false => rw [brF rfl]; rfl
theorem eVal_ok : EntOK Tryz.prog 12 (eVal valR) := fun args pre => by
  unfold eVal
  split
  · rename_i k m e s b
    refine ⟨fun g1 => ⟨fun g2 => ⟨fun g3 => ⟨fun g4 => ?_, fun _ => trivial⟩, fun _ => trivial⟩, fun _ => trivial⟩, fun _ => trivial⟩
    have b1 := pickS_bd (a := m) (n := 2000001) (by decide)
    have hw : w64 (pickS m 2000001 - 1000000) = pickS m 2000001 - 1000000 := w64_of (inI_iff.2 ⟨by omega, by omega⟩)
    have key := vl_comes ofR divR textL k m e s b
    rw [hw] at key
    exact meets_ent (pre := []) (post := []) tVl_ok host (key.trans (vlT_run g1 g2 g3 (of_decide_eq_true g4) (numO_right m) (one_right (pickS_bd (by decide))))) nolv_ok
  · trivial
theorem valF_ok {r1 r2 : I3} {t : List UInt8} {k m : Int} {b : Bool} (h2 : r2.2.2 = 0 → Dq.rightB r2.1 r2.2.1 = true) (ht : isTx t = true) (hl : t.length ≤ 40) (hm : 0 ≤ m ∧ m < 9) : plR (valF r1 r2 t k m b) = true ∧ rigR isTx (valF r1 r2 t k m b) = true := by
  unfold valF
  cases k == 1 with
  | true =>
    cases r1.2.2 == 0 with
    | false => exact ⟨by kernel_rfl, by kernel_rfl⟩
    | true => cases q : r2.2.2 == 0 with
      | false => exact ⟨by kernel_rfl, by kernel_rfl⟩
      | true =>
        refine ⟨rfl, ?_⟩
        show (Dq.rightB r2.1 r2.2.1 && zF 0 0 [] false 0 0 0 0) = true
        rw [h2 (beq_iff_eq.1 q)]; rfl
  | false => cases k == 2 with
    | true =>
      refine ⟨?_, ?_⟩
      · show (true && decide (t.length ≤ 1000000)) = true
        rw [decide_eq_true (by omega)]; rfl
      · show (isTx t && zF 0 0 [] false 0 0 0 0) = true
        rw [ht]; rfl
    | false => cases k == 3 with
      | true => exact ⟨rfl, rfl⟩
      | false => cases k == 4 with
        | true =>
          refine ⟨rfl, ?_⟩
          show (decide (1 ≤ 1 + m ∧ 1 + m ≤ 9) && zF 0 0 [] false 0 0 0 0) = true
          rw [decide_eq_true ⟨by omega, by omega⟩]; rfl
        | false => exact ⟨rfl, rfl⟩
theorem valR_ok (k m e : Int) (s : List UInt8) (b : Bool) : plR (valR k m e s b) = true ∧ rigR isTx (valR k m e s b) = true :=
  valF_ok (numD_right m e) (by unfold isTx; rw [(textL_ok s).1, decide_eq_true (by have := (textL_ok s).2; omega)]; rfl) (textL_ok s).2 (pickS_bd (by decide))
end Go.Proofs.YtdomenmfkbfakaaGreatDoor

/- Law 3: arrays of raw numbers. -/
set_option linter.unusedVariables false
set_option linter.unusedSimpArgs false
namespace Go.Proofs.YtdomenmfkbfakaaGreatDoor
open Go Sx
/-- The cells of raw numbers: kind, number, text, truth. -/
def shW : List CK := [.int .i64, .int .i64, .int .i64, .str, .bool]
abbrev fW (R : List (List CV)) : PObj := .raw (.flatR false shW R)
abbrev FV := Int → Int → Int → List UInt8 → Bool → List CV
abbrev rvF (f : FV) (x : List CV) : List CV := f (rowCV x 0).n (rowCV x 1).n (rowCV x 2).n (rowCV x 3).s (rowCV x 4).b
def zR : List CV := mkR 0 0 0 [] false 0 0 0 0
/-- Raw numbers that a program can hold. -/
def okC (x : List CV) : List Bool := [inI (rowCV x 0).n, inI (rowCV x 1).n, inI (rowCV x 2).n, decide ((rowCV x 3).s.length ≤ 9223372036854775807)]
section
variable (f : FV) (H W : Int) (a : Nat) (R : List (List CV))
def sA (l : AV) (t : List (Option PObj)) (i : Int) : PState := ⟨none :: none :: some (.dsl 0 a) :: none :: none :: none :: some (.ptr 1 0) :: some (.ptr 2 0) :: some (.int .i64 i) :: nn 39, some (fW R) :: some (vCells 0 0 0 [] false 0 0 0 0 .nilslice) :: some (vCells 5 0 0 [] false 0 H W 0 l) :: (t ++ nn 64)⟩
def sAX (l : AV) (t : List (Option PObj)) : PState := ⟨nn 6 ++ some (.ptr 1 0) :: some (.ptr 2 0) :: nn 40, some (fW R) :: some (vCells 0 0 0 [] false 0 0 0 0 .nilslice) :: some (vCells 5 0 0 [] false 0 H W 0 l) :: (t ++ nn 64)⟩
noncomputable abbrev loopA1 : Code := (loopBodies (bodyOf Tryz.f13)).headD .skip
def tAr : Tab := [(24, ePick), (12, eVal f)]
def rI (i : Int) : Int := Int.tmod i a
theorem rA0 : code (ent Tryz.prog (tAr f) nolv 64 1 20) Tryz.prog {} 1 64 1 loopA1 (sA H W a R .nilslice [] 0) (endK 1 64 (fun n => hasN [2, 6, 7, 8] n) (fun n => hasN [6, 7] n))
  = bcond (decide (0 < w64 (H * W))) (bcond ((a : Int) == 0) (some (.normal, sA H W a R (.vec 3 1) [some (vR34 [zR])] 1))
      (chks (chks (some (.normal, sA H W a R (.vec 3 1) [some (vR34 [nrm (rvF f (Sx.rowAt R (rI a 0).toNat))])] 1)) (okC (Sx.rowAt R (rI a 0).toNat))) [(a : Int) != 0, ixN (rI a 0) a, inR (rI a 0) R])) (some (.exit 0, sAX H W R .nilslice [])) := by kernel_rfl
theorem rA1 (n : Nat) (L : List (List CV)) (i : Int) : code (ent Tryz.prog (tAr f) nolv 64 1 20) Tryz.prog {} 1 64 1 loopA1 (sA H W a R (.vec 3 n) [some (vR34 L)] i) (endK 1 64 (fun n => hasN [2, 6, 7, 8] n) (fun n => hasN [6, 7] n))
  = bcond (decide (i < w64 (H * W))) (bcond ((a : Int) == 0) (chks (some (.normal, sA H W a R (.vec 3 (n + 1)) [some (vR34 (L ++ [zR]))] (up1 i))) [bV n L])
      (chks (chks (chks (some (.normal, sA H W a R (.vec 3 (n + 1)) [some (vR34 (L ++ [nrm (rvF f (Sx.rowAt R (rI a i).toNat))]))] (up1 i))) [bV n L]) (okC (Sx.rowAt R (rI a i).toNat))) [(a : Int) != 0, ixN (rI a i) a, inR (rI a i) R])) (some (.exit 0, sAX H W R (.vec 3 n) [some (vR34 L)])) := by kernel_rfl
def outA (N : Nat) (c : Bool) (L : List (List CV)) : LAns := .chk c (.out (.exit 0) (sAX H W R (.vec 3 N) [some (vR34 L)]))
noncomputable def lvA (N : Nat) (c : Bool) (L : List (List CV)) : FuncId → Lv := lvOf 13 (fun _ => some [2, 6, 7, 8]) (oneL 3 (eAt 1 (sA H W a R .nilslice [] 0) (outA H W R N c L)))
theorem ar_comes (h w : Int) (N : Nat) (c : Bool) (L : List (List CV)) : Comes [(24, ePick)] (lvA (w64 (1 + pickS h 5)) (w64 (1 + pickS w 5)) a R N c L) 13 [.int .i64 h, .int .i64 w, .dsl 0 a] [fW R]
  (.chk (inI h) (.chk (inI w) (.chk (eqSt (sA (w64 (1 + pickS h 5)) (w64 (1 + pickS w 5)) a R .nilslice [] 0) (sA (w64 (1 + pickS h 5)) (w64 (1 + pickS w 5)) a R .nilslice [] 0)) (.chk c (.ret (vL 5 0 0 [] false 0 (w64 (1 + pickS h 5)) (w64 (1 + pickS w 5)) (.vec 1 N) 0) [fW R, vR34 L]))))) := by unfold Comes; kernel_rfl
end
/-- The row of an array at a place, and so many of them. -/
def arJ (f : FV) (a : Nat) (R : List (List CV)) (i : Nat) : List CV := bcond (Nat.beq a 0) zR (nrm (rvF f (Sx.rowAt R (i % a))))
def arL (f : FV) (a : Nat) (R : List (List CV)) (n : Nat) : List (List CV) := (List.range n).map (arJ f a R)
theorem arL_succ (f : FV) (a : Nat) (R : List (List CV)) (n : Nat) : arL f a R n ++ [arJ f a R n] = arL f a R (n + 1) := by unfold arL; rw [List.range_succ, List.map_append]; rfl
theorem arL_len (f : FV) (a : Nat) (R : List (List CV)) (n : Nat) : (arL f a R n).length = n := by simp [arL]
theorem arL_at {f : FV} {a : Nat} {R : List (List CV)} {n i : Nat} (h : i < n) : Sx.rowAt (arL f a R n) i = arJ f a R i := by simp [arL, Sx.rowAt, h]
def okW (a : Nat) (R : List (List CV)) : Prop := a ≤ R.length ∧ a < 9223372036854775808 ∧ ∀ i, i < a → ∀ c ∈ okC (Sx.rowAt R i), c = true
section
variable {f : FV} {H W : Int} {a N : Nat} {R : List (List CV)}
def sAj (f : FV) (H W : Int) (a : Nat) (R : List (List CV)) : Nat → PState
  | 0 => sA H W a R .nilslice [] 0
  | n + 1 => sA H W a R (.vec 3 (n + 1)) [some (vR34 (arL f a R (n + 1)))] ((n + 1 : Nat) : Int)
theorem rI_nat (j : Nat) : rI a (j : Int) = ((j % a : Nat) : Int) := rfl
theorem roundA (hR : okW a R) (hN : w64 (H * W) = (N : Int)) (h1 : N ≤ 1000) (j : Nat) (hj : j < N) : code (ent Tryz.prog (tAr f) nolv 64 1 20) Tryz.prog {} 1 64 1 loopA1 (sAj f H W a R j) (endK 1 64 (fun n => hasN [2, 6, 7, 8] n) (fun n => hasN [6, 7] n)) = some (.normal, sAj f H W a R (j + 1)) := by
  obtain ⟨hl, hs, hc⟩ := hR
  have hb : ∀ n, n ≤ 1000 → bV n (arL f a R n) = true := fun n hn => by unfold bV roomB; rw [arL_len]; simp; omega
  have h3 : ∀ j : Nat, 0 < a → ∀ x ∈ [(a : Int) != 0, ixN (rI a j) a, inR (rI a j) R], x = true := fun j h0 => by
    have := Nat.mod_lt j h0
    rw [rI_nat]
    exact all3' (bne_iff_ne.2 (by omega)) (ixN_nat this) (inR_nat (by omega))
  by_cases h0 : a = 0
  · subst h0
    have z0 : (((0 : Nat) : Int) == 0) = true := rfl
    cases j with
    | zero =>
      rw [sAj, rA0, hN, bcT (decide_eq_true (by omega)), bcT z0]; rfl
    | succ j =>
      rw [sAj, rA1, hN, bcT (decide_eq_true (by omega)), bcT z0, chks_true (by simpa using hb (j + 1) (by omega)), up1_nat (by omega)]
      rw [show zR = arJ f 0 R (j + 1) from rfl, arL_succ]; rfl
  · have ha : 0 < a := by omega
    have eJ : ∀ i, nrm (rvF f (Sx.rowAt R (i % a))) = arJ f a R i := fun i => by unfold arJ; rw [show Nat.beq a 0 = false from Bool.eq_false_iff.2 fun e => h0 (beqT.1 e)]; rfl
    cases j with
    | zero =>
      have h3' := h3 0 ha
      rw [sAj, rA0, hN, bcT (decide_eq_true (by omega)), bcF (beq_eq_false_iff_ne.2 (by omega))]
      rw [show rI a ((0 : Nat) : Int) = ((0 % a : Nat) : Int) from rfl] at h3'
      rw [show rI a 0 = ((0 % a : Nat) : Int) from rfl, chks_true h3', Int.toNat_natCast, chks_true (hc _ (Nat.mod_lt _ ha)), eJ 0]; rfl
    | succ j =>
      rw [sAj, rA1, hN, bcT (decide_eq_true (by omega)), bcF (beq_eq_false_iff_ne.2 (by omega)), chks_true (h3 (j + 1) ha), rI_nat, Int.toNat_natCast, chks_true (hc _ (Nat.mod_lt _ ha)), chks_true (by simpa using hb (j + 1) (by omega)), up1_nat (by omega), eJ (j + 1), arL_succ]; rfl
theorem loopA (hf : EntOK Tryz.prog 12 (eVal f)) (hR : okW a R) (hN : w64 (H * W) = (N : Int)) (h1 : 1 ≤ N ∧ N ≤ 1000) : Tri Tryz.prog (.loop loopA1) (sA H W a R .nilslice [] 0).toA (.exit 0) (sAX H W R (.vec 3 N) [some (vR34 (arL f a R N))]).toA 1 := by
  have key := loop_rounds (ent_sound (T := tAr f) (.cons ePick_ok (.cons hf .nil)) host nolv_ok (NF := 64) (m := 1) 20) (NF := 64) (m := 1) (x := loopA1) (K := 1) loops_none (fun n => hasN [2, 6, 7, 8] n) (fun n => hasN [6, 7] n) (ι := { j : Nat // j ≤ N }) (fun j => sAj f H W a R j.1) (fun j => N - j.1) (fun j => (.exit 0, sAX H W R (.vec 3 N) [some (vR34 (arL f a R N))])) ?_ (fun j => by simp) ⟨0, Nat.zero_le _⟩
  · exact key
  rintro ⟨j, hj⟩
  simp only
  by_cases hl : j < N
  · exact .inl ⟨⟨j + 1, hl⟩, by simp only; omega, trivial, roundA hR hN h1.2 j hl⟩
  · obtain rfl : j = N := by omega
    cases j with
    | zero => omega
    | succ j =>
      right
      rw [sAj, rA1, hN, bcF (decide_eq_false (by omega))]
end
/-- How many rows, or columns, are asked for. -/
abbrev sz5 (h : Int) : Int := 1 + pickS h 5
def nA (h w : Int) : Nat := (sz5 h * sz5 w).toNat
open Classical in
noncomputable def eArr (f : FV) : Ent := fun args pre => match args, pre with
  | [.int .i64 h, .int .i64 w, .dsl j a], [.raw (.flatR m sh R)] => .chk (Nat.beq j 0 && shEq sh shW && !m) (.chk (inI h) (.chk (inI w) (.chk (decide (okW a R)) (.ret (vL 5 0 0 [] false 0 (sz5 h) (sz5 w) (.vec 1 (nA h w)) 0) [.raw (.flatR m sh R), vR34 (arL f a R (nA h w))]))))
  | _, _ => .fail
theorem nA_bd (h w : Int) : ((nA h w : Nat) : Int) = sz5 h * sz5 w ∧ 1 ≤ nA h w ∧ nA h w ≤ 25 := by
  have h1 := pickS_bd (a := h) (n := 5) (by decide)
  have h2 := pickS_bd (a := w) (n := 5) (by decide)
  have a1 : 1 ≤ sz5 h * sz5 w := Int.mul_pos (a := sz5 h) (by unfold sz5; omega) (by unfold sz5; omega)
  have a2 : sz5 h * sz5 w ≤ 5 * 5 := Int.mul_le_mul (by unfold sz5; omega) (by unfold sz5; omega) (by unfold sz5; omega) (by omega)
  unfold nA
  omega
open Classical in
theorem eArr_ok {f : FV} (hf : EntOK Tryz.prog 12 (eVal f)) : EntOK Tryz.prog 13 (eArr f) := fun args pre => by
  unfold eArr
  split
  · rename_i h w j a m sh R
    refine ⟨fun g0 => ⟨fun g1 => ⟨fun g2 => ⟨fun g3 => ?_, fun _ => trivial⟩, fun _ => trivial⟩, fun _ => trivial⟩, fun _ => trivial⟩
    rw [Bool.and_eq_true, Bool.and_eq_true, beqT] at g0
    obtain ⟨⟨rfl, g⟩, gm⟩ := g0
    obtain rfl := shEq_of g
    cases m with
    | true => cases gm
    | false =>
    have g3 := of_decide_eq_true g3
    obtain ⟨n1, n2, n3⟩ := nA_bd h w
    have h1 := pickS_bd (a := h) (n := 5) (by decide)
    have h2 := pickS_bd (a := w) (n := 5) (by decide)
    have e1 : w64 (1 + pickS h 5) = sz5 h := w64_of (inI_iff.2 ⟨by omega, by omega⟩)
    have e2 : w64 (1 + pickS w 5) = sz5 w := w64_of (inI_iff.2 ⟨by omega, by omega⟩)
    have key := ar_comes a R h w (nA h w) true (arL f a R (nA h w))
    rw [e1, e2] at key
    refine meets_ent (T := [(24, ePick)]) (pre := [fW R]) (post := [fW R, vR34 (arL f a R (nA h w))]) (.cons ePick_ok .nil) host (key.trans (by rw [chkT g1, chkT g2, chkT (eqSt_refl _), chkT rfl]; rfl)) (lvOne_ok (x := loopA1) Tryz.func13 (by kernel_rfl) fun K t => eAt_ok (a := outA (sz5 h) (sz5 w) R (nA h w) true (arL f a R (nA h w))) ⟨fun _ => loopA hf g3 (by rw [w64_of (inI_iff.2 ⟨by omega, by omega⟩), n1]) ⟨n2, by omega⟩, fun _ => trivial⟩ K t)
  · trivial
end Go.Proofs.YtdomenmfkbfakaaGreatDoor

/- Law 3: what is made of an array (ValMade): the rounds. -/
set_option linter.unusedVariables false
set_option linter.unusedSimpArgs false
namespace Go.Proofs.YtdomenmfkbfakaaGreatDoor
open Go Sx
section
variable (tx : List UInt8 → Bool) (H W n : Int) (N : Nat) (R L M : List (List CV))
def sM (i : Int) : PState := ⟨nn 3 ++ some (.int .i64 n) :: (nn 5 ++ some (.bool true) :: some (.ptr 1 0) :: some (.ptr 2 0) :: none :: some (.int .i64 i) :: nn 128), some (fW R) :: some (vCells 5 0 0 [] false 0 H W 0 (.vec 3 N)) :: some (vCells 5 0 0 [] false 0 H W 0 (.vec 4 N)) :: some (vR34 L) :: some (vR34 M) :: nn 64⟩
def sMX : PState := ⟨nn 3 ++ some (.int .i64 n) :: (nn 5 ++ some (.bool true) :: some (.ptr 1 0) :: some (.ptr 2 0) :: nn 130), some (fW R) :: some (vCells 5 0 0 [] false 0 H W 0 (.vec 3 N)) :: some (vCells 5 0 0 [] false 0 H W 0 (.vec 4 N)) :: some (vR34 L) :: some (vR34 M) :: nn 64⟩
noncomputable abbrev loopMd1 : Code := (loopBodies (bodyOf Tryz.f9)).headD .skip
noncomputable def tMd (f : FV) : Tab := [(11, eTrue), (13, eArr f), (19, eMak tx), (26, eSam), (22, eGet tx), (24, ePick)]
def gM (i : Int) : List CV := getA tx 0 0 [] false 0 H W 0 N M (w64 (Int.tdiv i W)) (Int.tmod i W)
open Classical in
theorem rM (f : FV) (i : Int) : code (ent Tryz.prog (tMd tx f) nolv 64 1 20) Tryz.prog {} 1 64 1 loopMd1 (sM H W n N R L M i) (endK 1 64 (fun n => hasN [3, 9, 10, 11, 13] n) (fun n => hasN [3, 9, 10, 11] n))
  = bcond (decide (i < (N : Int))) (chks (bcond (!(samR (gM tx H W N M i) (Sx.rowAt L i.toNat))) (some (.ret, sMX H W n N R L M)) (some (.normal, sM H W n N R L M (up1 i)))) [W != 0, W != 0, decide (okRows N M), ixN i N, inR i L]) (some (.exit 0, sMX H W n N R L M)) := by kernel_rfl
end
end Go.Proofs.YtdomenmfkbfakaaGreatDoor

/- Law 3: what is made of an array (ValMade): the law. -/
set_option linter.unusedVariables false
set_option linter.unusedSimpArgs false
namespace Go.Proofs.YtdomenmfkbfakaaGreatDoor
open Go Sx
section
variable (tx : List UInt8 → Bool) (H W n : Int) (N : Nat) (R L M : List (List CV))
def outMd (c : Bool) : LAns := .chk c (.out (.exit 0) (sMX H W n N R L M))
noncomputable def lvMd (c : Bool) : FuncId → Lv := lvOf 9 (fun _ => some [3, 9, 10, 11, 13]) (oneL 7 (eAt 1 (sM H W n N R L M 0) (outMd H W n N R L M c)))
def fwB (b : Bool) : Ans := .ret (.bool b) [fW R]
def rwM (i j : Int) : List CV := getA tx 0 0 [] false 0 H W 0 N M i j
/-- One of the two ends: its number is one, and the first stands there; or more, and there is #N/A. -/
def endT (G : Int) (g : List CV) (X Y : Ans) (Z : Ans) : Ans := .br (G == 1) (.chk (ixN 0 N) (.chk (inR 0 L) (.br (samR g (Sx.rowAt L 0)) X (.br (decide (G > 1)) Y Z)))) (.br (decide (G > 1)) Y Z)
open Classical in
noncomputable def tailT : Ans := .chk (inI n) (.chk (decide (okRows N M)) (.chk (decide (okRows N M)) (.chk (decide (okRows N L)) (.br (rightA tx 0 0 [] false 0 (w64 (H + 1)) W 0 N L) (fwB R false)
  (let g1 := rwM tx H W N M (w64 (H + pickS n 1000)) 0
   let g2 := rwM tx H W N M 0 (w64 (W + pickS n 1000))
   let X := endT N L W g2 (fwB R true) (fwB R (rr g2 == 7)) (fwB R false)
   endT N L H g1 X (.br (rr g1 == 7) X (fwB R false)) (fwB R false))))))
end
open Classical in
theorem md_comes (tx : List UInt8 → Bool) (f : FV) (h w n : Int) (a : Nat) (R : List (List CV)) (c : Bool) : Comes (tMd tx f) (lvMd (sz5 h) (sz5 w) n (nA h w) R (arL f a R (nA h w)) (cpR (arL f a R (nA h w)) (nA h w)) c) 9 [.int .i64 h, .int .i64 w, .dsl 0 a, .int .i64 n] [fW R]
  (.chk (inI h) (.chk (inI w) (.chk (decide (okW a R)) (.chk (decide (okRows (nA h w) (arL f a R (nA h w)))) (.br (rightA tx 0 0 [] false 0 (sz5 h) (sz5 w) 0 (nA h w) (arL f a R (nA h w)))
    (.chk (decide (nA h w ≤ (cpR (arL f a R (nA h w)) (nA h w)).length ∧ nA h w ≤ (arL f a R (nA h w)).length ∧ nA h w < 1000000000))
      (.br (!(sameF 5 0 0 [] false 0 (sz5 h) (sz5 w) 0 5 0 0 [] false 0 (sz5 h) (sz5 w) 0 && eqRows (nA h w) (nA h w) (cpR (arL f a R (nA h w)) (nA h w)) (arL f a R (nA h w)))) (fwB R false)
        (.chk (eqSt (sM (sz5 h) (sz5 w) n (nA h w) R (arL f a R (nA h w)) (cpR (arL f a R (nA h w)) (nA h w)) 0) (sM (sz5 h) (sz5 w) n (nA h w) R (arL f a R (nA h w)) (cpR (arL f a R (nA h w)) (nA h w)) 0))
          (.chk c (tailT tx (sz5 h) (sz5 w) n (nA h w) R (arL f a R (nA h w)) (cpR (arL f a R (nA h w)) (nA h w)))))))
    (fwB R false)))))) := by unfold Comes; kernel_rfl
end Go.Proofs.YtdomenmfkbfakaaGreatDoor

/- Law 3: what is made of an array (ValMade): it is so. -/
set_option linter.unusedVariables false
set_option linter.unusedSimpArgs false
namespace Go.Proofs.YtdomenmfkbfakaaGreatDoor
open Go Sx
theorem sameF_refl (k m e : Int) (s : List UInt8) (b : Bool) (r h w f : Int) : sameF k m e s b r h w f k m e s b r h w f = true := by unfold sameF; simp
theorem samR_nrm (x : List CV) : samR (nrm x) x = true := sameF_refl ..
theorem eqFrom_of {R S : List (List CV)} : ∀ (n i : Nat), (∀ j, i ≤ j → j < i + n → samR (Sx.rowAt R j) (Sx.rowAt S j) = true) → eqFrom R S n i = true
  | 0, _, _ => rfl
  | n + 1, i, h => by rw [eqFrom, h i (Nat.le_refl _) (by omega), eqFrom_of n (i + 1) fun j h1 h2 => h j (by omega) (by omega)]; rfl
theorem rigFrom_of {tx : List UInt8 → Bool} {R : List (List CV)} : ∀ (n i : Nat), (∀ j, i ≤ j → j < i + n → rigR tx (Sx.rowAt R j) = true) → rigFrom tx R n i = true
  | 0, _, _ => rfl
  | n + 1, i, h => by rw [rigFrom, h i (Nat.le_refl _) (by omega), rigFrom_of n (i + 1) fun j h1 h2 => h j (by omega) (by omega)]; rfl
theorem zR_ok : plR zR = true ∧ rigR isTx zR = true := ⟨by kernel_rfl, by kernel_rfl⟩
theorem arJ_ok (a : Nat) (R : List (List CV)) (i : Nat) : plR (arJ valR a R i) = true ∧ rigR isTx (arJ valR a R i) = true := by
  unfold arJ
  cases Nat.beq a 0 with
  | true => exact zR_ok
  | false => exact valR_ok _ _ _ _ _
section
variable {a : Nat} {R : List (List CV)} {N : Nat}
theorem okRows_ar (hN : N ≤ 25) : okRows N (arL valR a R N) := ⟨by rw [arL_len]; omega, by omega, fun i hi => by rw [arL_at hi]; exact (arJ_ok a R i).1⟩
theorem okRows_cp (hN : N ≤ 25) : okRows N (cpR (arL valR a R N) N) := ⟨by rw [cpR_len]; omega, by omega, fun i hi => by rw [cpR_at hi, arL_at hi]; exact (arJ_ok a R i).1⟩
theorem rig_ar : rigFrom isTx (arL valR a R N) N 0 = true := rigFrom_of N 0 fun j _ h => by rw [arL_at (by omega)]; exact (arJ_ok a R j).2
theorem rig_cp : rigFrom isTx (cpR (arL valR a R N) N) N 0 = true := rigFrom_of N 0 fun j _ h => by rw [cpR_at (by omega), arL_at (by omega)]; exact (arJ_ok a R j).2
theorem eq_cp : eqFrom (cpR (arL valR a R N) N) (arL valR a R N) N 0 = true := eqFrom_of N 0 fun j _ h => by rw [cpR_at (by omega)]; exact samR_nrm _
end
theorem sz5_bd (h : Int) : 1 ≤ sz5 h ∧ sz5 h ≤ 5 := by have := pickS_bd (a := h) (n := 5) (by decide); unfold sz5; omega
theorem div_400 {h w : Int} (h1 : 1 ≤ h ∧ h ≤ 5) (h2 : 1 ≤ w ∧ w ≤ 5) : w ≤ 400 / h := by
  have : h = 1 ∨ h = 2 ∨ h = 3 ∨ h = 4 ∨ h = 5 := by omega
  rcases this with rfl | rfl | rfl | rfl | rfl <;> omega
theorem grid_ok {h w : Int} {N : Nat} {L : List (List CV)} (h1 : 1 ≤ h ∧ h ≤ 5) (h2 : 1 ≤ w ∧ w ≤ 5) (hN : (N : Int) = h * w) (hr : rigFrom isTx L N 0 = true) : rightA isTx 0 0 [] false 0 h w 0 N L = true := by
  unfold rightA gridB
  rw [decide_eq_true ⟨h1.1, h2.1, div_400 h1 h2, hN⟩, hr]; rfl
/-- What stands at a place of an array. -/
theorem atG_at {H W : Int} {N : Nat} {M : List (List CV)} (h1 : 1 ≤ H) (h2 : 1 ≤ W) (hN : (N : Int) = H * W) (h25 : N ≤ 25) {j : Nat} (hj : j < N) : atG H W M (w64 (Int.tdiv (j : Int) W)) (Int.tmod (j : Int) W) = Sx.rowAt M j := by
  obtain ⟨v, rfl⟩ : ∃ v : Nat, W = (v : Int) := ⟨W.toNat, by omega⟩
  obtain ⟨u, rfl⟩ : ∃ u : Nat, H = (u : Int) := ⟨H.toNat, by omega⟩
  have hN : N = u * v := by exact_mod_cast hN
  have e1 : Int.tdiv (j : Int) (v : Int) = ((j / v : Nat) : Int) := rfl
  have e2 : Int.tmod (j : Int) (v : Int) = ((j % v : Nat) : Int) := rfl
  have d1 : j / v < u := (Nat.div_lt_iff_lt_mul (by omega)).2 (by rw [← hN]; exact hj)
  have d2 : j % v < v := Nat.mod_lt _ (by omega)
  have d3 : v * (j / v) + j % v = j := Nat.div_add_mod j v
  have d4 : j / v ≤ j := Nat.div_le_self ..
  rw [e1, e2]
  generalize j / v = q at *
  generalize j % v = r at *
  rw [w64_of (inI_iff.2 ⟨by omega, by omega⟩)]
  have c1 : (if (u : Int) = 1 then (0 : Int) else (q : Int)) = (q : Int) := by
    split
    · rename_i h; have : q = 0 := by omega
      rw [this]; rfl
    · rfl
  have c2 : (if (v : Int) = 1 then (0 : Int) else (r : Int)) = (r : Int) := by
    split
    · rename_i h; have : r = 0 := by omega
      rw [this]; rfl
    · rfl
  unfold atG
  simp only [c1, c2]
  rw [if_neg (by omega)]
  have : (q : Int) * (v : Int) + (r : Int) = (j : Int) := by
    rw [Int.mul_comm]; exact_mod_cast d3
  rw [this, Int.toNat_natCast]
/-- Beyond an array there is an error, where it has more than one. -/
theorem atG_end {H W : Int} {M : List (List CV)} {i : Int} (h1 : 1 ≤ H) (h2 : 1 ≤ W) (hi : H ≤ i) : (H = 1 → atG H W M i 0 = Sx.rowAt M 0) ∧ (1 < H → atG H W M i 0 = errR 7) := by
  have c2 : (if W = 1 then (0 : Int) else 0) = 0 := by split <;> rfl
  refine ⟨fun e => ?_, fun e => ?_⟩
  · unfold atG; simp only [c2, if_pos e]; rw [if_neg (by omega), Int.zero_mul]; rfl
  · unfold atG; simp only [c2, if_neg (show H ≠ 1 by omega)]; rw [if_pos (by omega)]
theorem atG_end' {H W : Int} {M : List (List CV)} {j : Int} (h1 : 1 ≤ H) (h2 : 1 ≤ W) (hj : W ≤ j) : (W = 1 → atG H W M 0 j = Sx.rowAt M 0) ∧ (1 < W → atG H W M 0 j = errR 7) := by
  have c2 : (if H = 1 then (0 : Int) else 0) = 0 := by split <;> rfl
  refine ⟨fun e => ?_, fun e => ?_⟩
  · unfold atG; simp only [c2, if_pos e]; rw [if_neg (by omega), Int.zero_mul]; rfl
  · unfold atG; simp only [c2, if_neg (show W ≠ 1 by omega)]; rw [if_pos (by omega)]
theorem endT_run {N : Nat} {L : List (List CV)} {G : Int} {g : List CV} {X Y Z : Ans} {r : Option (AV × List PObj)} (hN : 0 < N) (hL : N ≤ L.length) (h1 : 1 ≤ G) (ha : G = 1 → samR g (Sx.rowAt L 0) = true) (hX : X.run pure2 = r) (hb : 1 < G → Y.run pure2 = r) : (endT N L G g X Y Z).run pure2 = r := by
  unfold endT
  by_cases h : G = 1
  · rw [brT (beq_iff_eq.2 h), chkT (show ixN (0 : Int) N = true from ixN_nat hN), chkT (show inR (0 : Int) L = true from inR_nat (j := 0) (by omega)), brT (ha h)]; exact hX
  · rw [brF (beq_eq_false_iff_ne.2 h), brT (decide_eq_true (by omega))]; exact hb (by omega)
section
variable {H W n : Int} {N : Nat} {R L M : List (List CV)} (h1 : 1 ≤ H ∧ H ≤ 5) (h2 : 1 ≤ W ∧ W ≤ 5) (hN : (N : Int) = H * W) (h25 : N ≤ 25) (h0 : 1 ≤ N) (hL : okRows N L) (hM : okRows N M) (rL : rigFrom isTx L N 0 = true) (rM' : rigFrom isTx M N 0 = true) (hs : ∀ i, i < N → samR (Sx.rowAt M i) (Sx.rowAt L i) = true)
include h1 h2 hN h25 h0 hL hM rL rM' hs
set_option linter.unusedSectionVars false in
theorem rwM_of (i j : Int) : rwM isTx H W N M i j = atG H W M i j := by
  unfold rwM getA; rw [grid_ok h1 h2 hN rM']; rfl
open Classical in
theorem tail_true (hn : inI n = true) : (tailT isTx H W n N R L M).run pure2 = pure2 (.bool true) [fW R] := by
  have bp := pickS_bd (a := n) (n := 1000) (by decide)
  unfold tailT
  rw [chkT hn, chkT (decide_eq_true hM), chkT (decide_eq_true hM), chkT (decide_eq_true hL), brF (by
    unfold rightA gridB
    rw [w64_of (inI_iff.2 ⟨by omega, by omega⟩), decide_eq_false (fun c => ?_)]; rfl
    have := c.2.2.2
    rw [Int.add_mul, Int.one_mul, ← hN] at this
    omega)]
  simp only [rwM_of h1 h2 hN h25 h0 hL hM rL rM' hs]
  rw [w64_of (a := H + pickS n 1000) (inI_iff.2 ⟨by omega, by omega⟩), w64_of (a := W + pickS n 1000) (inI_iff.2 ⟨by omega, by omega⟩)]
  have g1 := atG_end (M := M) h1.1 h2.1 (i := H + pickS n 1000) (by omega)
  have g2 := atG_end' (M := M) h1.1 h2.1 (j := W + pickS n 1000) (by omega)
  have hX : (endT N L W (atG H W M 0 (W + pickS n 1000)) (fwB R true) (fwB R (rr (atG H W M 0 (W + pickS n 1000)) == 7)) (fwB R false)).run pure2 = pure2 (.bool true) [fW R] :=
    endT_run h0 hL.1 h2.1 (fun e => by rw [g2.1 e]; exact hs 0 h0) rfl fun e => by rw [g2.2 e]; rfl
  exact endT_run h0 hL.1 h1.1 (fun e => by rw [g1.1 e]; exact hs 0 h0) hX fun e => by rw [g1.2 e, brT (show (rr (errR 7) == 7) = true from rfl)]; exact hX
open Classical in
theorem loopMd (f : FV) (hf : EntOK Tryz.prog 12 (eVal f)) (ha : EntOK Tryz.prog 11 eTrue) : Tri Tryz.prog (.loop loopMd1) (sM H W n N R L M 0).toA (.exit 0) (sMX H W n N R L M).toA 1 := by
  have key := loop_rounds (ent_sound (T := tMd isTx f) (.cons ha (.cons (eArr_ok hf) (.cons (eMak_ok eIsT_ok) (.cons eSam_ok (.cons (eGet_ok eIsT_ok) (.cons ePick_ok .nil)))))) host nolv_ok (NF := 64) (m := 1) 20) (NF := 64) (m := 1) (x := loopMd1) (K := 1) loops_none (fun n => hasN [3, 9, 10, 11, 13] n) (fun n => hasN [3, 9, 10, 11] n) (ι := { j : Nat // j ≤ N }) (fun j => sM H W n N R L M (j.1 : Int)) (fun j => N - j.1) (fun j => (.exit 0, sMX H W n N R L M)) ?_ (fun j => by simp) ⟨0, Nat.zero_le _⟩
  · exact key
  rintro ⟨j, hj⟩
  simp only
  have rd := rM isTx H W n N R L M f (j : Int)
  by_cases hl : j < N
  · rw [bcT (decide_eq_true (by omega)), chks_true (by
      have a1 : (W != 0) = true := bne_iff_ne.2 (by omega)
      simp only [List.mem_cons, List.not_mem_nil, or_false]
      rintro c (rfl | rfl | rfl | rfl | rfl)
      · exact a1
      · exact a1
      · exact decide_eq_true hM
      · exact ixN_nat hl
      · exact inR_nat (by have := hL.1; omega)), up1_nat (by omega), Int.toNat_natCast] at rd
    have e : gM isTx H W N M (j : Int) = Sx.rowAt M j := by
      unfold gM getA; rw [grid_ok h1 h2 hN rM']; exact atG_at h1.1 h2.1 hN h25 hl
    rw [e, hs j hl] at rd
    exact .inl ⟨⟨j + 1, hl⟩, by simp only; omega, trivial, rd⟩
  · rw [bcF (decide_eq_false (by omega))] at rd
    exact .inr rd
end
open Classical in
theorem md_meets {h w n : Int} {a : Nat} {R : List (List CV)} (hh : inI h = true) (hw : inI w = true) (hn : inI n = true) (hR : okW a R) (hf : EntOK Tryz.prog 12 (eVal valR)) (ha : EntOK Tryz.prog 11 eTrue) :
    Meets Tryz.prog 9 [.int .i64 h, .int .i64 w, .dsl 0 a, .int .i64 n] [.flatR false shW R] (.bool true) [.flatR false shW R] := by
  have b1 := sz5_bd h
  have b2 := sz5_bd w
  obtain ⟨n1, n2, n3⟩ := nA_bd h w
  have key := md_comes isTx valR h w n a R true
  have rl := rig_ar (a := a) (R := R) (N := nA h w)
  have rc := rig_cp (a := a) (R := R) (N := nA h w)
  have ol := okRows_ar (a := a) (R := R) n3
  have oc := okRows_cp (a := a) (R := R) n3
  have ec := eq_cp (a := a) (R := R) (N := nA h w)
  have hs : ∀ i, i < nA h w → samR (Sx.rowAt (cpR (arL valR a R (nA h w)) (nA h w)) i) (Sx.rowAt (arL valR a R (nA h w)) i) = true := fun i hi => by rw [cpR_at hi]; exact samR_nrm _
  generalize cpR (arL valR a R (nA h w)) (nA h w) = M at *
  generalize arL valR a R (nA h w) = L at *
  refine meets_ent (pre := [fW R]) (post := [fW R]) (.cons ha (.cons (eArr_ok hf) (.cons (eMak_ok eIsT_ok) (.cons eSam_ok (.cons (eGet_ok eIsT_ok) (.cons ePick_ok .nil)))))) host (key.trans ?_) (lvOne_ok (x := loopMd1) Tryz.func9 (by kernel_rfl) fun K t => eAt_ok (a := outMd (sz5 h) (sz5 w) n (nA h w) R L M true) ⟨fun _ => loopMd b1 b2 n1 n3 n2 ol oc rl rc hs valR hf ha, fun _ => trivial⟩ K t)
  rw [chkT hh, chkT hw, chkT (decide_eq_true hR), chkT (decide_eq_true ol), brT (grid_ok b1 b2 n1 rl), chkT (decide_eq_true ⟨oc.1, ol.1, by omega⟩), brF (by unfold eqRows; rw [sameF_refl, Nat.beq_refl, ec]; rfl), chkT (eqSt_refl _), chkT rfl]
  exact tail_true b1 b2 n1 n3 n2 ol oc rl rc hs hn
end Go.Proofs.YtdomenmfkbfakaaGreatDoor
