/- Layer 3: which arrays are right. -/
import Derived.Test.YtdomenmfkbfakaaGreatDoorGr09
import Derived.Test.YtdomenmfkbfakaaGreatDoorGr08
import Derived.Test.YtdomenmfkbfakaaGreatDoorRows
import Derived.Shelf.Lays
import Derived.Shelf.Unicode.ValidAny
import Derived.Lib.LaidU8T
import Derived.MakeChecks
import Derived.Lib.LaidTab
import Derived.Stop.LaidErr
import Derived.Shelf.Vars
import Derived.Test.YtdomenmfkbfakaaGreatDoorGr05
import Derived.Lib.TrimU
import Derived.Lib.ValidLaws
import Derived.Lib.TrimUEq
import Derived.Laws.RangeAny
import Derived.Laws.RangeString
set_option linter.unusedVariables false
set_option linter.unusedSimpArgs false
namespace Go.Proofs.YtdomenmfkbfakaaGreatDoor
open Go Sx
theorem denL_L1 {E : Env} {k m e : Int} {s : List UInt8} {b : Bool} {r h w f : Int} {l l' : AV} (hl : ∀ y, den E l = some y → den E l' = some y) (us : List AV) : ∀ xs, denL E (vL k m e s b r h w l f :: us) = some xs → denL E (vL k m e s b r h w l' f :: us) = some xs := fun xs hx => by
  obtain ⟨x, zs, h1, h2, rfl⟩ := denL_cons.1 hx
  exact denL_cons.2 ⟨x, zs, den_L hl h1, h2, rfl⟩
theorem denL_tl {E : Env} {u : AV} {us us' : List AV} (h : ∀ xs, denL E us = some xs → denL E us' = some xs) : ∀ xs, denL E (u :: us) = some xs → denL E (u :: us') = some xs := fun xs hx => by
  obtain ⟨x, zs, h1, h2, rfl⟩ := denL_cons.1 hx
  exact denL_cons.2 ⟨x, zs, h1, h _ h2, rfl⟩
-- isGrid
def sG (a : Nat) (R : List (List CV)) (i : Int) : PState := ⟨nn 33 ++ some (.dsl 0 a) :: some (.int .i64 a) :: some (.int .i64 i) :: nn 17, some (.raw (.flatR false shV R)) :: nn 64⟩
def sGX (q : Option AV) (R : List (List CV)) : PState := ⟨none :: none :: q :: nn 50, some (.raw (.flatR false shV R)) :: nn 64⟩
noncomputable abbrev loopG1 : Code := (loopBodies (bodyOf Tryz.f68)).headD .skip
def tRig (tx : List UInt8 → Bool) : Tab := [(27, eRigP tx)]
def gR (x : List CV) (a b : PState) (tx : List UInt8 → Bool) : Option (Ex × PState) :=
  bcond (rk x == 5) (some (.ret, a)) (bcond (rk x == 6) (some (.ret, a)) (chks (bcond (!rigR tx x) (some (.ret, a)) (some (.normal, b))) [decide (0 ≤ rk x ∧ rk x ≤ 4), decide ((rs x).length ≤ 1000000)]))
theorem rG (tx : List UInt8 → Bool) (a : Nat) (R : List (List CV)) (i : Int) : code (ent Tryz.prog (tRig tx) nolv 64 1 20) Tryz.prog {} 1 64 1 loopG1 (sG a R i) (endK 1 64 (fun n => hasN [33, 34, 35] n) (fun n => hasN [2] n))
  = bcond (decide (i < (a : Int))) (chks (gR (Sx.rowAt R i.toNat) (sGX (some (.bool false)) R) (sG a R (up1 i)) tx) [ixN i a, inR i R]) (some (.exit 0, sGX none R)) := by kernel_rfl
/-- Rows of plain kinds, their texts not too long. -/
def plR (x : List CV) : Bool := decide (0 ≤ rk x ∧ rk x ≤ 4) && decide ((rs x).length ≤ 1000000)
def rigFrom (tx : List UInt8 → Bool) (R : List (List CV)) : Nat → Nat → Bool
  | 0, _ => true
  | n + 1, i => rigR tx (Sx.rowAt R i) && rigFrom tx R n (i + 1)
def okRows (a : Nat) (R : List (List CV)) : Prop := a ≤ R.length ∧ a < 1000000000 ∧ ∀ i, i < a → plR (Sx.rowAt R i) = true
section
variable {tx : List UInt8 → Bool} (ht : EntOK Tryz.prog 51 (eIsT tx))
include ht
theorem tRig_ok : TabOK Tryz.prog (tRig tx) := .cons (eRigP_ok ht) .nil
theorem loopG {a : Nat} {R : List (List CV)} (hR : okRows a R) : Tri Tryz.prog (.loop loopG1) (sG a R 0).toA (bcond (rigFrom tx R a 0) (.exit 0) .ret) (sGX (bcond (rigFrom tx R a 0) none (some (.bool false))) R).toA 1 := by
  obtain ⟨hR, hs, hp⟩ := hR
  have key := loop_rounds (ent_sound (tRig_ok ht) host nolv_ok (NF := 64) (m := 1) 20) (NF := 64) (m := 1) (x := loopG1) (K := 1) loops_none (fun n => hasN [33, 34, 35] n) (fun n => hasN [2] n) (ι := { j : Nat // j ≤ a }) (fun j => sG a R (j.1 : Int)) (fun j => a - j.1) (fun j => (bcond (rigFrom tx R (a - j.1) j.1) (.exit 0) .ret, sGX (bcond (rigFrom tx R (a - j.1) j.1) none (some (.bool false))) R)) ?_ (fun j => by cases rigFrom tx R (a - j.1) j.1 <;> simp [bcond]) ⟨0, Nat.zero_le _⟩
  · exact key
  rintro ⟨j, hj⟩
  simp only
  have rd := rG tx a R (j : Int)
  by_cases h : j < a
  · have hx := hp j h
    unfold plR at hx
    rw [Bool.and_eq_true] at hx
    have hk := of_decide_eq_true hx.1
    rw [bcT (decide_eq_true (by omega)), chks_true (all2 (ixN_nat h) (inR_nat (by omega))), Int.toNat_natCast, up1_nat (by omega)] at rd
    unfold gR at rd
    rw [bcF (beq_eq_false_iff_ne.2 (by omega)), bcF (beq_eq_false_iff_ne.2 (by omega)), chks_true (all2 hx.1 hx.2)] at rd
    have e : a - j = (a - (j + 1)) + 1 := by omega
    rw [e, rigFrom]
    cases hq : rigR tx (Sx.rowAt R j) with
    | true => exact .inl ⟨⟨j + 1, h⟩, by simp only; omega, by simp only [Bool.true_and], by rw [rd, hq]; rfl⟩
    | false => exact .inr (by rw [rd, hq]; rfl)
  · rw [bcF (decide_eq_false (by omega))] at rd
    exact .inr (by rw [rd, show a - j = 0 by omega]; rfl)
end
noncomputable def lvG (A : LAns) (a : Nat) (R : List (List CV)) : FuncId → Lv := lvOf 68 (fun _ => some [33, 34, 35]) (oneL 4 (eAt 1 (sG a R 0) A))
theorem lvG_ok {A : LAns} {a : Nat} {R : List (List CV)} (h : LAnsOK Tryz.prog loopG1 1 (sG a R 0) A) : LvOK Tryz.prog (lvG A a R) := lvOne_ok (x := loopG1) Tryz.func68 (by kernel_rfl) fun K t => eAt_ok h K t
def w64 (a : Int) : Int := IntKind.i64.wrap a
def outG (c q : Bool) (R : List (List CV)) : LAns := .chk c (.br q (.out (.exit 0) (sGX none R)) (.out .ret (sGX (some (.bool false)) R)))
theorem grid_comes (c q : Bool) (k m e : Int) (s : List UInt8) (b : Bool) (r h w f : Int) (a : Nat) (R : List (List CV)) : Comes [] (lvG (outG c q R) a R) 68 [vL k m e s b r h w (.dsl 0 a) f] [fR R]
  (.br (decide (h < 1)) (.ret (.bool false) [fR R]) (.br (decide (w < 1)) (.ret (.bool false) [fR R]) (.chk (h != 0) (.br (decide (w > w64 (Int.tdiv 400 h))) (.ret (.bool false) [fR R]) (.br ((a : Int) != w64 (h * w)) (.ret (.bool false) [fR R]) (.chk (eqSt (sG a R 0) (sG a R 0)) (.chk c (.br q (.ret (.bool true) [fR R]) (.ret (.bool false) [fR R]))))))))) := by unfold Comes; kernel_rfl
/-- Is an array's list right for so many rows and columns? -/
def gridB (tx : List UInt8 → Bool) (h w : Int) (a : Nat) (R : List (List CV)) : Bool := decide (1 ≤ h ∧ 1 ≤ w ∧ w ≤ 400 / h ∧ (a : Int) = h * w) && rigFrom tx R a 0
theorem w64_of {a : Int} (h : inI a = true) : w64 a = a := i64_in (inI_iff.1 h).1 (inI_iff.1 h).2
theorem le_400 {h w : Int} (h1 : 1 ≤ h) (h2 : w ≤ 400 / h) : h * w ≤ 400 := by
  have := Int.mul_le_of_le_ediv (c := h) (a := w) (b := 400) (by omega) h2
  rw [Int.mul_comm]; exact this
theorem grid_meets {tx : List UInt8 → Bool} (ht : EntOK Tryz.prog 51 (eIsT tx)) {k m e : Int} {s : List UInt8} {b : Bool} {r h w f : Int} {a : Nat} {R : List (List CV)} (hR : okRows a R) :
    Meets Tryz.prog 68 [vL k m e s b r h w (.dsl 0 a) f] [.flatR false shV R] (.bool (gridB tx h w a R)) [.flatR false shV R] := by
  have hA : LAnsOK Tryz.prog loopG1 1 (sG a R 0) (outG true (rigFrom tx R a 0) R) := ⟨fun _ => by
    have key := loopG ht hR
    refine ⟨fun h => ?_, fun h => ?_⟩ <;> rw [h] at key <;> exact key, fun _ => trivial⟩
  refine meets_ent (T := []) (pre := [fR R]) (post := [fR R]) .nil host ((grid_comes true (rigFrom tx R a 0) ..).trans ?_) (lvG_ok hA)
  unfold gridB
  by_cases h1 : 1 ≤ h
  · rw [brF (decide_eq_false (by omega))]
    by_cases h2 : 1 ≤ w
    · rw [brF (decide_eq_false (by omega)), chkT (bne_iff_ne.2 (by omega))]
      have hd : w64 (Int.tdiv 400 h) = 400 / h := by
        rw [Int.tdiv_eq_ediv_of_nonneg (by omega)]
        have a1 : 0 ≤ 400 / h := Int.ediv_nonneg (by omega) (by omega)
        have a2 : 400 / h ≤ 400 := Int.ediv_le_self _ (by omega)
        exact w64_of (inI_iff.2 ⟨by omega, by omega⟩)
      rw [hd]
      by_cases h3 : w ≤ 400 / h
      · rw [brF (decide_eq_false (by omega))]
        have a3 := le_400 h1 h3
        have a4 : 0 ≤ h * w := Int.mul_nonneg (by omega) (by omega)
        rw [w64_of (inI_iff.2 ⟨by omega, by omega⟩)]
        by_cases h4 : (a : Int) = h * w
        · rw [brF (by rw [h4]; simp), chkT (eqSt_refl _), chkT rfl, decide_eq_true ⟨h1, h2, h3, h4⟩, Bool.true_and]
          cases hq : rigFrom tx R a 0 with
          | true => rw [brT rfl]; rfl
          | false => rw [brF rfl]; rfl
        · rw [brT (bne_iff_ne.2 h4), decide_eq_false (fun c => h4 c.2.2.2)]; rfl
      · rw [brT (decide_eq_true (by omega)), decide_eq_false (fun c => h3 c.2.2.1)]; rfl
    · rw [brT (decide_eq_true (by omega)), decide_eq_false (fun c => h2 c.2.1)]; rfl
  · rw [brT (decide_eq_true (by omega)), decide_eq_false (fun c => h1 c.1)]; rfl
open Classical in
noncomputable def eGrid (tx : List UInt8 → Bool) : Ent := fun args pre => match args, pre with
  | [.agg [.int .i64 k, .int .i64 m, .int .i64 e, .str s, .bool b, .int .i64 r, .int .i64 h, .int .i64 w, l, .int .i64 f, .nilslice, .nilslice]], [o] =>
    match rowsIn 0 l o with
    | some (a, R) => .chk (decide (okRows a R)) (.ret (.bool (gridB tx h w a R)) [o])
    | none => .fail
  | _, _ => .fail
open Classical in
theorem eGrid_ok {tx : List UInt8 → Bool} (ht : EntOK Tryz.prog 51 (eIsT tx)) : EntOK Tryz.prog 68 (eGrid tx) := fun args pre => by
  unfold eGrid
  split
  · split
    · rename_i hs
      refine ⟨fun g => ?_, fun _ => trivial⟩
      exact meets_rows (j := 0) hs (grid_meets ht (of_decide_eq_true g)) rfl fun E xs hx => denL_L1 (fun y hy => rowsIn_den hs hy) [] xs hx
    · trivial
  · trivial
-- Right
noncomputable def tRtA (tx : List UInt8 → Bool) : Tab := [(67, eRt), (51, eIsT tx), (26, eSamP), (68, eGrid tx)]
open Classical in
theorem rightA_comes (tx : List UInt8 → Bool) (m e : Int) (s : List UInt8) (b : Bool) (r h w f : Int) (a : Nat) (R : List (List CV)) : Comes (tRtA tx) nolv 27 [vL 5 m e s b r h w (.dsl 0 a) f] [fR R] (.chk (decide (okRows a R)) (.br (gridB tx h w a R) (.ret (.bool (zF m e s b r 0 0 f)) [fR R]) (.ret (.bool false) [fR R]))) := by unfold Comes; kernel_rfl
def rightA (tx : List UInt8 → Bool) (m e : Int) (s : List UInt8) (b : Bool) (r h w f : Int) (a : Nat) (R : List (List CV)) : Bool := gridB tx h w a R && zF m e s b r 0 0 f
open Classical in
noncomputable def eRig (tx : List UInt8 → Bool) : Ent := fun args pre => match args, pre with
  | [.agg [.int .i64 k, .int .i64 m, .int .i64 e, .str s, .bool b, .int .i64 r, .int .i64 h, .int .i64 w, l, .int .i64 f, .nilslice, .nilslice]], [o] =>
    match rowsIn 0 l o with
    | some (a, R) => .chk (k == 5) (.chk (decide (okRows a R)) (.ret (.bool (rightA tx m e s b r h w f a R)) [o]))
    | none => .fail
  | _, _ => eRigP tx args pre
open Classical in
theorem eRig_ok {tx : List UInt8 → Bool} (ht : EntOK Tryz.prog 51 (eIsT tx)) : EntOK Tryz.prog 27 (eRig tx) := fun args pre => by
  unfold eRig
  split
  · split
    · rename_i k m e s b r h w l f o _ a R hs
      refine ⟨fun g1 => ⟨fun g => ?_, fun _ => trivial⟩, fun _ => trivial⟩
      obtain rfl := beq_iff_eq.1 g1
      have T : TabOK Tryz.prog (tRtA tx) := .cons eRtD_ok (.cons ht (.cons eSamP_ok (.cons (eGrid_ok ht) .nil)))
      refine meets_rows (j := 0) hs (args := [vL 5 m e s b r h w (.dsl 0 a) f]) (pre := [.flatR false shV R]) (post := [.flatR false shV R]) (meets_ent (pre := [fR R]) (post := [fR R]) T host ((rightA_comes tx m e s b r h w f a R).trans ?_) nolv_ok) rfl fun E xs hx => denL_L1 (fun y hy => rowsIn_den hs hy) [] xs hx
      rw [chkT g]; unfold rightA
      cases hq : gridB tx h w a R with
      | true => rw [brT rfl]; rfl
      | false => rw [brF rfl]; rfl
    · trivial
  · exact eRigP_ok ht _ _
end Go.Proofs.YtdomenmfkbfakaaGreatDoor

/- Layer 3: copies of values. -/
set_option linter.unusedVariables false
set_option linter.unusedSimpArgs false
namespace Go.Proofs.YtdomenmfkbfakaaGreatDoor
open Go Sx
theorem cop_p (k m e : Int) (s : List UInt8) (b : Bool) (r h w f : Int) : Comes [] nolv 57 [vL k m e s b r h w .nilslice f] [] (.ret (vL k m e s b r h w .nilslice f) []) := by unfold Comes; kernel_rfl
def eCopP : Ent := fun args pre => match args, pre with
  | [.agg [.int .i64 k, .int .i64 m, .int .i64 e, .str s, .bool b, .int .i64 r, .int .i64 h, .int .i64 w, .nilslice, .int .i64 f, .nilslice, .nilslice]], [] => .ret (vL k m e s b r h w .nilslice f) []
  | _, _ => .fail
theorem eCopP_ok : EntOK Tryz.prog 57 eCopP := fun args pre => by
  unfold eCopP
  split
  · exact ans_comes .nil (cop_p ..)
  · trivial
/-- A row, and nothing else of it. -/
abbrev nrm (x : List CV) : List CV := mkR (rk x) (rm x) (re x) (rs x) (rb x) (rr x) (rh x) (rw_ x) (rf x)
def vR34 (L : List (List CV)) : PObj := .vecR shV L 34
section
variable (k m e : Int) (s : List UInt8) (b : Bool) (r h w f : Int) (a : Nat) (R : List (List CV))
def vCells (l : AV) : PObj := .raw (.cells [.int .i64 k, .int .i64 m, .int .i64 e, .str s, .bool b, .int .i64 r, .int .i64 h, .int .i64 w, l, .int .i64 f, .nilslice, .nilslice] 34)
def sC (l : AV) (t : List (Option PObj)) (i : Int) : PState := ⟨none :: some (.ptr 1 0) :: some (.ptr 2 0) :: none :: some (.ptr 3 0) :: (nn 14 ++ some (.dsl 0 a) :: some (.int .i64 a) :: some (.int .i64 i) :: nn 29), some (fR R) :: some (vCells k m e s b r h w f l) :: some (vCells 0 0 0 [] false 0 0 0 0 .nilslice) :: some (.raw (.cells [.nilslice, .nilslice] 32)) :: (t ++ nn 64)⟩
def sCX (l : AV) (t : List (Option PObj)) : PState := ⟨none :: some (.ptr 1 0) :: some (.ptr 2 0) :: none :: some (.ptr 3 0) :: nn 46, some (fR R) :: some (vCells k m e s b r h w f l) :: some (vCells 0 0 0 [] false 0 0 0 0 .nilslice) :: some (.raw (.cells [.nilslice, .nilslice] 32)) :: (t ++ nn 64)⟩
noncomputable abbrev loopC1 : Code := (loopBodies (bodyOf Tryz.f57)).headD .skip
def bV (n : Nat) (L : List (List CV)) : Bool := true && decide (L.length * 12 = n * 12) && roomB (n + 1) 152
def tCop : Tab := [(57, eCopP)]
theorem rC0 : code (ent Tryz.prog tCop nolv 64 1 20) Tryz.prog {} 1 64 1 loopC1 (sC k m e s b r h w f a R .nilslice [] 0) (endK 1 64 (fun n => hasN [1, 2, 4, 19, 20, 21] n) (fun n => hasN [1, 2, 4] n))
  = bcond (decide ((0 : Int) < (a : Int))) (chks (some (.normal, sC k m e s b r h w f a R (.vec 4 1) [some (vR34 [nrm (Sx.rowAt R 0)])] 1)) [ixN 0 a, inR 0 R]) (some (.exit 0, sCX k m e s b r h w f R .nilslice [])) := by kernel_rfl
theorem rC1 (n : Nat) (L : List (List CV)) (i : Int) : code (ent Tryz.prog tCop nolv 64 1 20) Tryz.prog {} 1 64 1 loopC1 (sC k m e s b r h w f a R (.vec 4 n) [some (vR34 L)] i) (endK 1 64 (fun n => hasN [1, 2, 4, 19, 20, 21] n) (fun n => hasN [1, 2, 4] n))
  = bcond (decide (i < (a : Int))) (chks (some (.normal, sC k m e s b r h w f a R (.vec 4 (n + 1)) [some (vR34 (L ++ [nrm (Sx.rowAt R i.toNat)]))] (up1 i))) [ixN i a, inR i R, bV n L]) (some (.exit 0, sCX k m e s b r h w f R (.vec 4 n) [some (vR34 L)])) := by kernel_rfl
def kC (i : Nat) : Option (List Nat) := match Nat.beq i 4 with | true => some [1, 2, 4, 19, 20, 21] | false => none
noncomputable abbrev loopC2 : Code := ((loopBodies (bodyOf Tryz.f57)).drop 1).headD .skip
def outC (c : Bool) (L : List (List CV)) : LAns := .chk c (.out (.exit 0) (sCX k m e s b r h w f R (.vec 4 a) [some (vR34 L)]))
noncomputable def lvC (c : Bool) (L : List (List CV)) : FuncId → Lv := lvOf 57 kC (oneL 4 (eAt 1 (sC k m e s b r h w f a R .nilslice [] 0) (outC k m e s b r h w f a R c L)))
theorem cop_comes (c : Bool) (L : List (List CV)) : Comes [] (lvC k m e s b r h w f a R c L) 57 [vL k m e s b r h w (.dsl 0 a) f] [fR R] (.chk (eqSt (sC k m e s b r h w f a R .nilslice [] 0) (sC k m e s b r h w f a R .nilslice [] 0)) (.chk c (.ret (vL k m e s b r h w (.vec 1 a) f) [fR R, vR34 L]))) := by unfold Comes; kernel_rfl
end
theorem all3' {a b c : Bool} (ha : a = true) (hb : b = true) (hc : c = true) : ∀ x ∈ [a, b, c], x = true := by simp [ha, hb, hc]
/-- So many rows, copied. -/
def cpR (R : List (List CV)) (n : Nat) : List (List CV) := (List.range n).map fun i => nrm (Sx.rowAt R i)
theorem cpR_succ (R : List (List CV)) (n : Nat) : cpR R n ++ [nrm (Sx.rowAt R n)] = cpR R (n + 1) := by unfold cpR; rw [List.range_succ, List.map_append]; rfl
theorem cpR_len (R : List (List CV)) (n : Nat) : (cpR R n).length = n := by simp [cpR]
theorem cpR_at {R : List (List CV)} {n i : Nat} (h : i < n) : Sx.rowAt (cpR R n) i = nrm (Sx.rowAt R i) := by simp [cpR, Sx.rowAt, h]
section
variable {k m e : Int} {s : List UInt8} {b : Bool} {r h w f : Int} {a : Nat} {R : List (List CV)}
def sCj (k m e : Int) (s : List UInt8) (b : Bool) (r h w f : Int) (a : Nat) (R : List (List CV)) : Nat → PState
  | 0 => sC k m e s b r h w f a R .nilslice [] 0
  | n + 1 => sC k m e s b r h w f a R (.vec 4 (n + 1)) [some (vR34 (cpR R (n + 1)))] ((n + 1 : Nat) : Int)
theorem loopC (hR : a ≤ R.length) (hs : a < 1000000000) (h0 : 0 < a) : Tri Tryz.prog (.loop loopC1) (sC k m e s b r h w f a R .nilslice [] 0).toA (.exit 0) (sCX k m e s b r h w f R (.vec 4 a) [some (vR34 (cpR R a))]).toA 1 := by
  have key := loop_rounds (ent_sound (T := tCop) (.cons eCopP_ok .nil) host nolv_ok (NF := 64) (m := 1) 20) (NF := 64) (m := 1) (x := loopC1) (K := 1) loops_none (fun n => hasN [1, 2, 4, 19, 20, 21] n) (fun n => hasN [1, 2, 4] n) (ι := { j : Nat // j ≤ a }) (fun j => sCj k m e s b r h w f a R j.1) (fun j => a - j.1) (fun j => (.exit 0, sCX k m e s b r h w f R (.vec 4 a) [some (vR34 (cpR R a))])) ?_ (fun j => by simp) ⟨0, Nat.zero_le _⟩
  · exact key
  rintro ⟨j, hj⟩
  simp only
  cases j with
  | zero =>
    have rd := rC0 k m e s b r h w f a R
    rw [bcT (decide_eq_true (by omega)), chks_true (all2 (show ixN (0 : Int) a = true from ixN_nat h0) (show inR (0 : Int) R = true from inR_nat (j := 0) (by omega)))] at rd
    exact .inl ⟨⟨1, h0⟩, by simp only; omega, trivial, by rw [sCj, rd]; rfl⟩
  | succ j =>
    have rd := rC1 k m e s b r h w f a R (j + 1) (cpR R (j + 1)) ((j + 1 : Nat) : Int)
    by_cases hl : j + 1 < a
    · rw [bcT (decide_eq_true (by omega)), chks_true (all3' (ixN_nat hl) (inR_nat (by omega)) (by unfold bV roomB; rw [cpR_len]; simp; omega)), up1_nat (by omega), Int.toNat_natCast, cpR_succ] at rd
      exact .inl ⟨⟨j + 2, hl⟩, by simp only; omega, trivial, by rw [sCj, rd]; rfl⟩
    · obtain rfl : j + 1 = a := by omega
      rw [bcF (decide_eq_false (by simp))] at rd
      exact .inr (by rw [sCj, rd])
theorem cop_meets (hR : a ≤ R.length) (hs : a < 1000000000) (h0 : 0 < a) : Meets Tryz.prog 57 [vL k m e s b r h w (.dsl 0 a) f] [.flatR false shV R] (vL k m e s b r h w (.vec 1 a) f) [.flatR false shV R, (vR34 (cpR R a)).toA] :=
  meets_ent (T := []) (pre := [fR R]) (post := [fR R, vR34 (cpR R a)]) .nil host ((cop_comes k m e s b r h w f a R true (cpR R a)).trans (by rw [chkT (eqSt_refl _), chkT rfl]; rfl)) <| lvOf_ok Tryz.func57 fun x hx id e' hid he K t => by
    obtain ⟨rfl, rfl⟩ := oneL_some he
    have hb : loopBodies (bodyOf Tryz.f57) = [loopC1, loopC2] := by kernel_rfl
    rw [show bodyOf _ = bodyOf Tryz.f57 from rfl, hb] at hx
    rcases List.mem_cons.1 hx with rfl | hx
    · exact eAt_ok (a := outC k m e s b r h w f a R true (cpR R a)) ⟨fun _ => loopC hR hs h0, fun _ => trivial⟩ K t
    · obtain rfl := List.mem_singleton.1 hx
      exact absurd hid (by rw [show headReg loopC2 = some 9 by kernel_rfl]; simp)
end
def eCop : Ent := fun args pre => match args, pre with
  | [.agg [.int .i64 k, .int .i64 m, .int .i64 e, .str s, .bool b, .int .i64 r, .int .i64 h, .int .i64 w, l, .int .i64 f, .nilslice, .nilslice]], [o] =>
    match rowsIn 0 l o with
    | some (a, R) => .chk (decide (a ≤ R.length ∧ a < 1000000000 ∧ 0 < a)) (.ret (vL k m e s b r h w (.vec 1 a) f) [o, vR34 (cpR R a)])
    | none => .fail
  | _, _ => eCopP args pre
theorem eCop_ok : EntOK Tryz.prog 57 eCop := fun args pre => by
  unfold eCop
  split
  · split
    · rename_i k m e s b r h w l f o _ a R hs
      refine ⟨fun g => ?_, fun _ => trivial⟩
      have g := of_decide_eq_true g
      exact meets_rows (j := 0) hs (cop_meets g.1 g.2.1 g.2.2) rfl fun E xs hx => denL_L1 (fun y hy => rowsIn_den hs hy) [] xs hx
    · trivial
  · exact eCopP_ok _ _
end Go.Proofs.YtdomenmfkbfakaaGreatDoor

/- Layer 3: what stands where in an array; arrays that are made; which values are the same. -/
set_option linter.unusedVariables false
set_option linter.unusedSimpArgs false
namespace Go.Proofs.YtdomenmfkbfakaaGreatDoor
open Go Sx
/-- An error, as a row. -/
def errR (n : Int) : List CV := mkR 4 0 0 [] false n 0 0 0
def errT (n : Int) (pre : List PObj) : Ans := .ret (vL 4 0 0 [] false n 0 0 .nilslice 0) pre
-- Get
noncomputable def tGet (tx : List UInt8 → Bool) : Tab := [(27, eRig tx), (57, eCop)]
def leafG (h w : Int) (a : Nat) (R : List (List CV)) (i j : Int) : Ans :=
  .br (decide (i ≥ h)) (errT 7 [fR R]) (.br (decide (j ≥ w)) (errT 7 [fR R]) (.chk (decide (0 ≤ w64 (w64 (i * w) + j) ∧ w64 (w64 (i * w) + j) < (a : Int))) (.chk (inR (w64 (w64 (i * w) + j)) R) (.ret (vR (Sx.rowAt R (w64 (w64 (i * w) + j)).toNat)) [fR R]))))
open Classical in
theorem get_a (tx : List UInt8 → Bool) (m e : Int) (s : List UInt8) (b : Bool) (r h w f : Int) (a : Nat) (R : List (List CV)) (i j : Int) : Comes (tGet tx) nolv 22 [vL 5 m e s b r h w (.dsl 0 a) f, .int .i64 i, .int .i64 j] [fR R]
  (.chk (decide (okRows a R)) (.br (!(rightA tx m e s b r h w f a R)) (errT 3 [fR R]) (.br (decide (i < 0)) (errT 7 [fR R]) (.br (decide (j < 0)) (errT 7 [fR R]) (.br (h == 1) (.br (w == 1) (leafG h w a R 0 0) (leafG h w a R 0 j)) (.br (w == 1) (leafG h w a R i 0) (leafG h w a R i j))))))) := by unfold Comes; kernel_rfl
theorem get_p (tx : List UInt8 → Bool) (k m e : Int) (s : List UInt8) (b : Bool) (r h w f : Int) (i j : Int) (hk : k = 0 ∨ k = 1 ∨ k = 2 ∨ k = 3 ∨ k = 4) : Comes (tGet tx) nolv 22 [vL k m e s b r h w .nilslice f, .int .i64 i, .int .i64 j] []
  (.chk (decide (s.length ≤ 1000000)) (.br (!(rightF tx k m e s b r h w f)) (errT 3 []) (.br (decide (i < 0)) (errT 7 []) (.br (decide (j < 0)) (errT 7 []) (.ret (vL k m e s b r h w .nilslice f) []))))) := by rcases hk with rfl | rfl | rfl | rfl | rfl <;> (unfold Comes; kernel_rfl)
/-- What stands in an array that is right, as a row. -/
def atG (h w : Int) (R : List (List CV)) (i j : Int) : List CV :=
  let i' := if h = 1 then 0 else i
  let j' := if w = 1 then 0 else j
  if i < 0 ∨ j < 0 ∨ h ≤ i' ∨ w ≤ j' then errR 7 else Sx.rowAt R (i' * w + j').toNat
def getA (tx : List UInt8 → Bool) (m e : Int) (s : List UInt8) (b : Bool) (r h w f : Int) (a : Nat) (R : List (List CV)) (i j : Int) : List CV := bcond (rightA tx m e s b r h w f a R) (atG h w R i j) (errR 3)
theorem leafG_run {h w : Int} {a : Nat} {R : List (List CV)} {i j : Int} (h1 : 1 ≤ h) (h2 : 1 ≤ w) (h3 : w ≤ 400 / h) (h4 : (a : Int) = h * w) (hR : a ≤ R.length) (hi : 0 ≤ i) (hj : 0 ≤ j) :
    (leafG h w a R i j).run pure2 = pure2 (vR (if h ≤ i ∨ w ≤ j then errR 7 else Sx.rowAt R (i * w + j).toNat)) [fR R] := by
  unfold leafG
  by_cases c1 : h ≤ i
  · rw [brT (decide_eq_true c1), if_pos (.inl c1)]; rfl
  · rw [brF (decide_eq_false c1)]
    by_cases c2 : w ≤ j
    · rw [brT (decide_eq_true c2), if_pos (.inr c2)]; rfl
    · rw [brF (decide_eq_false c2), if_neg (by omega)]
      have a3 := le_400 h1 h3
      have a4 : 0 ≤ i * w := Int.mul_nonneg hi (by omega)
      have a5 : (i + 1) * w ≤ h * w := Int.mul_le_mul_of_nonneg_right (by omega) (by omega)
      rw [Int.add_mul, Int.one_mul] at a5
      rw [w64_of (a := i * w) (inI_iff.2 ⟨by omega, by omega⟩), w64_of (inI_iff.2 ⟨by omega, by omega⟩), chkT (decide_eq_true ⟨by omega, by omega⟩), chkT (by unfold inR; rw [decide_eq_true (by omega)]; rfl)]
      rfl
open Classical in
noncomputable def eGet (tx : List UInt8 → Bool) : Ent := fun args pre => match args, pre with
  | [.agg [.int .i64 k, .int .i64 m, .int .i64 e, .str s, .bool b, .int .i64 r, .int .i64 h, .int .i64 w, l, .int .i64 f, .nilslice, .nilslice], .int .i64 i, .int .i64 j], [o] =>
    match rowsIn 0 l o with
    | some (a, R) => .chk (k == 5) (.chk (decide (okRows a R)) (.ret (vR (getA tx m e s b r h w f a R i j)) [o]))
    | none => .fail
  | [.agg [.int .i64 k, .int .i64 m, .int .i64 e, .str s, .bool b, .int .i64 r, .int .i64 h, .int .i64 w, .nilslice, .int .i64 f, .nilslice, .nilslice], .int .i64 i, .int .i64 j], [] =>
    .chk (decide (0 ≤ k ∧ k ≤ 4)) (.chk (decide (s.length ≤ 1000000)) (.ret (vR (bcond (rightF tx k m e s b r h w f) (bcond (decide (i < 0 ∨ j < 0)) (errR 7) (mkR k m e s b r h w f)) (errR 3))) []))
  | _, _ => .fail
section
variable {tx : List UInt8 → Bool} (ht : EntOK Tryz.prog 51 (eIsT tx))
include ht
theorem tGet_ok : TabOK Tryz.prog (tGet tx) := .cons (eRig_ok ht) (.cons eCop_ok .nil)
open Classical in
theorem get_meets {m e : Int} {s : List UInt8} {b : Bool} {r h w f : Int} {a : Nat} {R : List (List CV)} {i j : Int} (hR : okRows a R) :
    Meets Tryz.prog 22 [vL 5 m e s b r h w (.dsl 0 a) f, .int .i64 i, .int .i64 j] [.flatR false shV R] (vR (getA tx m e s b r h w f a R i j)) [.flatR false shV R] := by
  refine meets_ent (pre := [fR R]) (post := [fR R]) (tGet_ok ht) host ((get_a tx m e s b r h w f a R i j).trans ?_) nolv_ok
  rw [chkT (decide_eq_true hR)]; unfold getA
  cases hq : rightA tx m e s b r h w f a R with
  | false => rw [Bool.not_false, brT rfl]; rfl
  | true =>
    rw [Bool.not_true, brF rfl]; simp only [bcond]
    have hg : gridB tx h w a R = true := by unfold rightA at hq; rw [Bool.and_eq_true] at hq; exact hq.1
    unfold gridB at hg; rw [Bool.and_eq_true] at hg
    obtain ⟨h1, h2, h3, h4⟩ := of_decide_eq_true hg.1
    unfold atG
    by_cases hi : 0 ≤ i
    · rw [brF (decide_eq_false (by omega))]
      by_cases hj : 0 ≤ j
      · rw [brF (decide_eq_false (by omega))]
        have key := fun (i' j' : Int) (hi' : 0 ≤ i') (hj' : 0 ≤ j') => leafG_run (R := R) h1 h2 h3 h4 hR.1 hi' hj'
        have n1 : ¬(i < 0) := by omega
        have n2 : ¬(j < 0) := by omega
        simp only [n1, n2, false_or]
        by_cases e1 : h = 1 <;> by_cases e2 : w = 1
        · rw [brT (beq_iff_eq.2 e1), brT (beq_iff_eq.2 e2), if_pos e1, if_pos e2]; exact key 0 0 (by omega) (by omega)
        · rw [brT (beq_iff_eq.2 e1), brF (beq_eq_false_iff_ne.2 e2), if_pos e1, if_neg e2]; exact key 0 j (by omega) hj
        · rw [brF (beq_eq_false_iff_ne.2 e1), brT (beq_iff_eq.2 e2), if_neg e1, if_pos e2]; exact key i 0 hi (by omega)
        · rw [brF (beq_eq_false_iff_ne.2 e1), brF (beq_eq_false_iff_ne.2 e2), if_neg e1, if_neg e2]; exact key i j hi hj
      · rw [brT (decide_eq_true (by omega)), if_pos (by omega)]; rfl
    · rw [brT (decide_eq_true (by omega)), if_pos (by omega)]; rfl
theorem getp_meets {k m e : Int} {s : List UInt8} {b : Bool} {r h w f : Int} {i j : Int} (hk : 0 ≤ k ∧ k ≤ 4) (hs : s.length ≤ 1000000) :
    Meets Tryz.prog 22 [vL k m e s b r h w .nilslice f, .int .i64 i, .int .i64 j] [] (vR (bcond (rightF tx k m e s b r h w f) (bcond (decide (i < 0 ∨ j < 0)) (errR 7) (mkR k m e s b r h w f)) (errR 3))) [] := by
  refine meets_ent (pre := []) (post := []) (tGet_ok ht) host ((get_p tx k m e s b r h w f i j (by omega)).trans ?_) nolv_ok
  rw [chkT (decide_eq_true hs)]
  cases hq : rightF tx k m e s b r h w f with
  | false => rw [Bool.not_false, brT rfl]; rfl
  | true =>
    rw [Bool.not_true, brF rfl]
    by_cases hi : i < 0
    · rw [brT (decide_eq_true hi), decide_eq_true (show i < 0 ∨ j < 0 from .inl hi)]; rfl
    · rw [brF (decide_eq_false hi)]
      by_cases hj : j < 0
      · rw [brT (decide_eq_true hj), decide_eq_true (show i < 0 ∨ j < 0 from .inr hj)]; rfl
      · rw [brF (decide_eq_false hj), decide_eq_false (show ¬(i < 0 ∨ j < 0) by omega)]; rfl
open Classical in
theorem eGet_ok : EntOK Tryz.prog 22 (eGet tx) := fun args pre => by
  unfold eGet
  split
  · split
    · rename_i k m e s b r h w l f i j o _ a R hs
      refine ⟨fun g1 => ⟨fun g => ?_, fun _ => trivial⟩, fun _ => trivial⟩
      obtain rfl := beq_iff_eq.1 g1
      exact meets_rows (j := 0) hs (get_meets ht (of_decide_eq_true g)) rfl fun E xs hx => denL_L1 (fun y hy => rowsIn_den hs hy) _ xs hx
    · trivial
  · exact ⟨fun g1 => ⟨fun g => getp_meets ht (of_decide_eq_true g1) (of_decide_eq_true g), fun _ => trivial⟩, fun _ => trivial⟩
  · trivial
-- Make
omit ht in
open Classical in
theorem mak_comes (tx : List UInt8 → Bool) (h w : Int) (a : Nat) (R : List (List CV)) : Comes (tGet tx) nolv 19 [.int .i64 h, .int .i64 w, .dsl 0 a] [fR R]
  (.chk (decide (okRows a R)) (.br (!(rightA tx 0 0 [] false 0 h w 0 a R)) (.ret (.tuple [vL 0 0 0 [] false 0 0 0 .nilslice 0, .int .i64 30]) [fR R]) (.chk (decide (a ≤ R.length ∧ a < 1000000000 ∧ 0 < a)) (.ret (.tuple [vL 5 0 0 [] false 0 h w (.vec 1 a) 0, .int .i64 0]) [fR R, vR34 (cpR R a)])))) := by unfold Comes; kernel_rfl
end
open Classical in
noncomputable def eMak (tx : List UInt8 → Bool) : Ent := fun args pre => match args, pre with
  | [.int .i64 h, .int .i64 w, l], [o] => match rowsIn 0 l o with
    | some (a, R) => .chk (decide (okRows a R)) (.br (rightA tx 0 0 [] false 0 h w 0 a R) (.ret (.tuple [vL 5 0 0 [] false 0 h w (.vec 1 a) 0, .int .i64 0]) [o, vR34 (cpR R a)]) (.ret (.tuple [vL 0 0 0 [] false 0 0 0 .nilslice 0, .int .i64 30]) [o]))
    | none => .fail
  | _, _ => .fail
open Classical in
theorem eMak_ok {tx : List UInt8 → Bool} (ht : EntOK Tryz.prog 51 (eIsT tx)) : EntOK Tryz.prog 19 (eMak tx) := fun args pre => by
  unfold eMak
  split
  · split
    · rename_i h w l o _ a R hs
      refine ⟨fun g => ?_, fun _ => trivial⟩
      have key := (mak_comes tx h w a R)
      have dn : ∀ E xs, denL E [.int .i64 h, .int .i64 w, l] = some xs → denL E [.int .i64 h, .int .i64 w, .dsl 0 a] = some xs := fun E => denL_tl (denL_tl fun xs hx => by
        obtain ⟨x, zs, h1, h2, rfl⟩ := denL_cons.1 hx
        exact denL_cons.2 ⟨x, zs, rowsIn_den hs h1, h2, rfl⟩)
      refine ⟨fun q => ?_, fun q => ?_⟩
      · refine meets_rows (j := 0) hs (pre := [.flatR false shV R]) (post := [.flatR false shV R, (vR34 (cpR R a)).toA]) (meets_ent (pre := [fR R]) (post := [fR R, vR34 (cpR R a)]) (tGet_ok ht) host (key.trans ?_) nolv_ok) rfl dn
        have hg : gridB tx h w a R = true := by unfold rightA at q; rw [Bool.and_eq_true] at q; exact q.1
        unfold gridB at hg; rw [Bool.and_eq_true] at hg
        obtain ⟨h1, h2, h3, h4⟩ := of_decide_eq_true hg.1
        have hp : 0 < h * w := Int.mul_pos (by omega) (by omega)
        have g' := of_decide_eq_true g
        rw [chkT g, q, Bool.not_true, brF rfl, chkT (decide_eq_true ⟨g'.1, g'.2.1, by omega⟩)]; rfl
      · refine meets_rows (j := 0) hs (pre := [.flatR false shV R]) (post := [.flatR false shV R]) (meets_ent (pre := [fR R]) (post := [fR R]) (tGet_ok ht) host (key.trans ?_) nolv_ok) rfl dn
        rw [chkT g, q, Bool.not_false, brT rfl]; rfl
    · trivial
  · trivial
-- Same
section
variable (k m e : Int) (s : List UInt8) (b : Bool) (r h w f k' m' e' : Int) (s' : List UInt8) (b' : Bool) (r' h' w' f' : Int) (a a' : Nat) (R S : List (List CV))
end
end Go.Proofs.YtdomenmfkbfakaaGreatDoor

/- Layer 3: what is told of a value, by functions that tell of plain ones: the rounds. -/
set_option linter.unusedVariables false
set_option linter.unusedSimpArgs false
namespace Go.Proofs.YtdomenmfkbfakaaGreatDoor
open Go Sx
/-- A function that tells of a plain value, not looked into: of which values, and what. -/
def eAsk (q : List CV → Bool) (af : List CV → List CV) : Ent := fun args pre => match args, pre with
  | [.agg [.int .i64 k, .int .i64 m, .int .i64 e, .str s, .bool b, .int .i64 r, .int .i64 h, .int .i64 w, .nilslice, .int .i64 f, .nilslice, .nilslice]], [] => .chk (q (mkR k m e s b r h w f)) (.ret (vR (af (mkR k m e s b r h w f))) [])
  | _, _ => .fail
def inS (i : Int) (L : List (List CV)) : Bool := decide (i.toNat < L.length) && true && true && true

-- ToNum
section
variable (af : List CV → List CV) (q : List CV → Bool) (m e : Int) (s : List UInt8) (b : Bool) (r h w f : Int) (a : Nat) (R L : List (List CV))
end

-- ToText
section
variable (af : List CV → List CV) (q : List CV → Bool) (m e : Int) (s : List UInt8) (b : Bool) (r h w f : Int) (a : Nat) (R L : List (List CV))
end

-- ToBool
section
variable (af : List CV → List CV) (q : List CV → Bool) (m e : Int) (s : List UInt8) (b : Bool) (r h w f : Int) (a : Nat) (R L : List (List CV))
end
end Go.Proofs.YtdomenmfkbfakaaGreatDoor

/- Layer 3: what is told of a value, by functions that tell of plain ones: what comes of it. -/
set_option linter.unusedVariables false
set_option linter.unusedSimpArgs false
namespace Go.Proofs.YtdomenmfkbfakaaGreatDoor
open Go Sx
def rowA (x : List CV) : Ans := .ret (vR x) []
def okD (q : List CV → Bool) (a : Nat) (R : List (List CV)) : Prop := a ≤ R.length ∧ a < 1000000000 ∧ ∀ i, i < a → (rk (Sx.rowAt R i) == 4) = true ∨ q (nrm (Sx.rowAt R i)) = true

-- ToNum
section
variable (af : List CV → List CV) (q : List CV → Bool) (tx : List UInt8 → Bool) (k m e : Int) (s : List UInt8) (b : Bool) (r h w f : Int) (a : Nat) (R L : List (List CV))
end
section
variable {af : List CV → List CV} {q : List CV → Bool} {m e : Int} {s : List UInt8} {b : Bool} {r h w f : Int} {a : Nat} {R : List (List CV)}
end

-- ToText
section
variable (af : List CV → List CV) (q : List CV → Bool) (tx : List UInt8 → Bool) (k m e : Int) (s : List UInt8) (b : Bool) (r h w f : Int) (a : Nat) (R L : List (List CV))
end
section
variable {af : List CV → List CV} {q : List CV → Bool} {m e : Int} {s : List UInt8} {b : Bool} {r h w f : Int} {a : Nat} {R : List (List CV)}
end

-- ToBool
section
variable (af : List CV → List CV) (q : List CV → Bool) (tx : List UInt8 → Bool) (k m e : Int) (s : List UInt8) (b : Bool) (r h w f : Int) (a : Nat) (R L : List (List CV))
end
section
variable {af : List CV → List CV} {q : List CV → Bool} {m e : Int} {s : List UInt8} {b : Bool} {r h w f : Int} {a : Nat} {R : List (List CV)}
end
end Go.Proofs.YtdomenmfkbfakaaGreatDoor

/- Layer 3: what is told of a value: entries. -/
set_option linter.unusedVariables false
set_option linter.unusedSimpArgs false
set_option linter.unusedSectionVars false
namespace Go.Proofs.YtdomenmfkbfakaaGreatDoor
open Go Sx

-- ToNum
section
variable {tx : List UInt8 → Bool} {af : List CV → List CV} {q : List CV → Bool} (ht : EntOK Tryz.prog 51 (eIsT tx)) (hq : EntOK Tryz.prog 72 (eAsk q af))
include ht hq
end

-- ToText
section
variable {tx : List UInt8 → Bool} {af : List CV → List CV} {q : List CV → Bool} (ht : EntOK Tryz.prog 51 (eIsT tx)) (hq : EntOK Tryz.prog 74 (eAsk q af))
include ht hq
end

-- ToBool
section
variable {tx : List UInt8 → Bool} {af : List CV → List CV} {q : List CV → Bool} (ht : EntOK Tryz.prog 51 (eIsT tx)) (hq : EntOK Tryz.prog 76 (eAsk q af))
include ht hq
end
end Go.Proofs.YtdomenmfkbfakaaGreatDoor

/- Layer 3: ToNum, ToText, ToBool. -/
set_option linter.unusedVariables false
set_option linter.unusedSimpArgs false
set_option linter.unusedSectionVars false
namespace Go.Proofs.YtdomenmfkbfakaaGreatDoor
open Go Sx

-- ToNum
section
variable {tx : List UInt8 → Bool} {af : List CV → List CV} {q : List CV → Bool} (ht : EntOK Tryz.prog 51 (eIsT tx)) (hq : EntOK Tryz.prog 72 (eAsk q af))
include ht hq
end
section
variable {tx : List UInt8 → Bool} {af : List CV → List CV} {q : List CV → Bool} (ht : EntOK Tryz.prog 51 (eIsT tx)) (hq : EntOK Tryz.prog 72 (eAsk q af))
include ht hq
end

-- ToText
section
variable {tx : List UInt8 → Bool} {af : List CV → List CV} {q : List CV → Bool} (ht : EntOK Tryz.prog 51 (eIsT tx)) (hq : EntOK Tryz.prog 74 (eAsk q af))
include ht hq
end
section
variable {tx : List UInt8 → Bool} {af : List CV → List CV} {q : List CV → Bool} (ht : EntOK Tryz.prog 51 (eIsT tx)) (hq : EntOK Tryz.prog 74 (eAsk q af))
include ht hq
end

-- ToBool
section
variable {tx : List UInt8 → Bool} {af : List CV → List CV} {q : List CV → Bool} (ht : EntOK Tryz.prog 51 (eIsT tx)) (hq : EntOK Tryz.prog 76 (eAsk q af))
include ht hq
end
section
variable {tx : List UInt8 → Bool} {af : List CV → List CV} {q : List CV → Bool} (ht : EntOK Tryz.prog 51 (eIsT tx)) (hq : EntOK Tryz.prog 76 (eAsk q af))
include ht hq
end
end Go.Proofs.YtdomenmfkbfakaaGreatDoor

/- Layer 3: what is told of a plain value as a number, a truth, a text: over dec.Read, letters.Small, dec.Text, not looked into. -/
set_option linter.unusedVariables false
set_option linter.unusedSimpArgs false
namespace Go.Proofs.YtdomenmfkbfakaaGreatDoor
open Go Sx
def eRdF (rd : List UInt8 → Int × Int × Int) : Ent := fun args pre => match args, pre with
  | [.str s], [] => .chk (decide (s.length < 1000000)) (.ret (R3 (rd s)) [])
  | _, _ => .fail
def eSmF (sm : List UInt8 → List UInt8) : Ent := fun args pre => match args, pre with
  | [.str s], [] => .chk (decide (s.length < 1000000)) (.ret (.str (sm s)) [])
  | _, _ => .fail
def nmR (m e : Int) : List CV := mkR 1 m e [] false 0 0 0 0
def txR (s : List UInt8) : List CV := mkR 2 0 0 s false 0 0 0 0
def trR (b : Bool) : List CV := mkR 3 0 0 [] b 0 0 0 0
def sTrue : List UInt8 := [116, 114, 117, 101]
def sFalse : List UInt8 := [102, 97, 108, 115, 101]
section
variable (rd : List UInt8 → Int × Int × Int) (sm : List UInt8 → List UInt8) (dt : Int → Int → List UInt8) (k m e : Int) (s : List UInt8) (b : Bool) (r h w f : Int)
end
end Go.Proofs.YtdomenmfkbfakaaGreatDoor

/- The tables that the program reads, out of what the row lists; utf8.ValidString by the library's own contract, laid over this program in plain words. -/
set_option linter.unusedVariables false
set_option linter.unusedSimpArgs false
namespace Go.Proofs.YtdomenmfkbfakaaGreatDoor
open Go Sx Go.Shelf

def layRen : Ren := ⟨fun | 196 => 128 | 259 => 144 | n => n, fun | 9 => 9 | 4 => 4 | 3 => 3 | 5 => 5 | 12 => 12 | 119 => 151 | 0 => 0 | 46 => 155 | 139 => 154 | 138 => 153 | 53 => 159 | n => n, fun | 3 => 1 | 4 => 2 | n => n⟩
theorem layValid : Lays.n196 Tryz.prog layRen := {
  mixed := by kernel_rfl,
  f196 := Tryz.func128.trans (congrArg some (by kernel_rfl)),
  f259 := Tryz.func144.trans (congrArg some (by kernel_rfl)),
  t0 := Tryz.underlying0,
  a0 := Tryz.isAgg0,
  z0 := Tryz.sizeOf0,
  v0 := Tryz.zeroValue0,
  t3 := Tryz.underlying3,
  a3 := Tryz.isAgg3,
  z3 := Tryz.sizeOf3,
  v3 := Tryz.zeroValue3,
  t4 := Tryz.underlying4,
  a4 := Tryz.isAgg4,
  z4 := Tryz.sizeOf4,
  v4 := Tryz.zeroValue4,
  t5 := Tryz.underlying5,
  a5 := Tryz.isAgg5,
  z5 := Tryz.sizeOf5,
  v5 := Tryz.zeroValue5,
  t9 := Tryz.underlying9,
  a9 := Tryz.isAgg9,
  z9 := Tryz.sizeOf9,
  v9 := Tryz.zeroValue9,
  t12 := Tryz.underlying12,
  a12 := Tryz.isAgg12,
  z12 := Tryz.sizeOf12,
  v12 := Tryz.zeroValue12,
  t46 := Tryz.underlying155,
  a46 := Tryz.isAgg155,
  z46 := Tryz.sizeOf155,
  v46 := Tryz.zeroValue155,
  t53 := Tryz.underlying159,
  a53 := Tryz.isAgg159,
  z53 := Tryz.sizeOf159,
  v53 := Tryz.zeroValue159,
  t119 := Tryz.underlying151,
  a119 := Tryz.isAgg151,
  z119 := Tryz.sizeOf151,
  t138 := Tryz.underlying153,
  a138 := Tryz.isAgg153,
  z138 := Tryz.sizeOf153,
  v138 := Tryz.zeroValue153,
  t139 := Tryz.underlying154,
  a139 := Tryz.isAgg154,
  z139 := Tryz.sizeOf154,
  v139 := Tryz.zeroValue154,
  g3 := by kernel_rfl,
  g4 := by kernel_rfl }
theorem layExtra : U8Extra Tryz.prog layRen := { n3 := by kernel_rfl, n4 := by kernel_rfl, y3 := by kernel_rfl, y4 := by kernel_rfl, c5 := by kernel_rfl, c119 := by kernel_rfl, c138 := by kernel_rfl }

theorem tabs_of_glob {w : World} {M : Nat → Prop} (h : GlobOK w M) : Lib.Utf8Tabs 1 2 w := by
  obtain ⟨_, _, h0⟩ := h.tab (g := 1) rfl
  obtain ⟨_, _, h1⟩ := h.tab (g := 2) rfl
  refine ⟨fun c hc => h0 c _ (by simp [gvals, List.getElem?_range hc]), fun i hi => ⟨h1 (2 * i) _ ?_, h1 (2 * i + 1) _ ?_⟩⟩
  · simp only [gvals, List.getElem?_map, List.getElem?_range (show 2 * i < 32 by omega), Option.map_some]
    simp
  · simp only [gvals, List.getElem?_map, List.getElem?_range (show 2 * i + 1 < 32 by omega), Option.map_some]
    rw [if_neg (by omega), show (2 * i + 1) / 2 = i by omega]
theorem tabs_part {w : World} (h : Lib.Utf8Tabs 1 2 w) : ∀ g l, gtab g = some l → g < w.heap.size ∧ ¬ (fun _ : Nat => False) g ∧ ∀ (i : Nat) x, (gvals l)[i]? = some x → w.cell? ⟨g, i, none⟩ = some x := by
  intro g l hg
  have big : ∀ {b i : Nat} {x : Value}, w.cell? ⟨b, i, none⟩ = some x → b < w.heap.size := fun {b i x} e => by
    rcases Nat.lt_or_ge b w.heap.size with h' | h'
    · exact h'
    · simp [World.cell?, Array.getElem?_eq_none h'] at e
  unfold gtab at hg
  split at hg
  · cases hg
    refine ⟨big (h.1 0 (by omega)), fun e => e, fun i x hx => ?_⟩
    have hi : i < 256 := by have := (List.getElem?_eq_some_iff.1 hx).1; simpa [gvals] using this
    simp only [gvals, List.getElem?_map, List.getElem?_range hi, Option.map_some, Option.some.injEq] at hx
    rw [← hx]; exact h.1 i hi
  · cases hg
    refine ⟨big (h.2 0 (by omega)).1, fun e => e, fun i x hx => ?_⟩
    have hi : i < 32 := by have := (List.getElem?_eq_some_iff.1 hx).1; simpa [gvals] using this
    simp only [gvals, List.getElem?_map, List.getElem?_range hi, Option.map_some, Option.some.injEq] at hx
    rw [← hx]
    by_cases c : i % 2 = 0
    · rw [if_pos c]
      have := (h.2 (i / 2) (by omega)).1
      rwa [show 2 * (i / 2) = i by omega] at this
    · rw [if_neg c]
      have := (h.2 (i / 2) (by omega)).2
      rwa [show 2 * (i / 2) + 1 = i by omega] at this
  · cases hg
theorem strs_part {w : World} (hf : ∀ (i : Nat) x, (gvalsS ((gstr 0).getD []))[i]? = some x → w.cell? ⟨0, i, none⟩ = some x) : ∀ g l, gtab g = none → gstr g = some l → g < w.heap.size ∧ ∀ (i : Nat) x, (gvalsS l)[i]? = some x → w.cell? ⟨g, i, none⟩ = some x := by
  intro g l _ hg
  unfold gstr at hg
  split at hg
  · cases hg
    refine ⟨?_, hf⟩
    have e := hf 0 _ rfl
    rcases Nat.lt_or_ge 0 w.heap.size with h' | h'
    · exact h'
    · simp [World.cell?, Array.getElem?_eq_none h'] at e
  · cases hg
theorem glob_of_tabs {w : World} (h : Lib.Utf8Tabs 1 2 w)
    (hf : ∀ (i : Nat) x, (gvalsS ((gstr 0).getD []))[i]? = some x → w.cell? ⟨0, i, none⟩ = some x) (hm : ∃ n, w.cell? ⟨3, 0, none⟩ = some (.int .i64 n)) : GlobOK w fun _ => False := by
  intro g hg
  have big : ∀ {b : Nat} {x : Value}, w.cell? ⟨b, 0, none⟩ = some x → b < w.heap.size := fun {b x} e => by
    rcases Nat.lt_or_ge b w.heap.size with h' | h'
    · exact h'
    · simp [World.cell?, Array.getElem?_eq_none h'] at e
  have her : gerr g = true → g < w.heap.size ∧ ∃ t v, w.cell? ⟨g, 0, none⟩ = some (.iface t v) := fun he => by cases he
  have hin : gint g = true → g < w.heap.size ∧ ∃ n, w.cell? ⟨g, 0, none⟩ = some (.int .i64 n) := fun he => by
    have : g = 3 := by
      unfold gint at he
      split at he
      · rfl
      · cases he
    subst this
    obtain ⟨n, e⟩ := hm; exact ⟨big e, n, e⟩
  have hal : ∀ p, gAll g = some p → g < w.heap.size ∧ ∀ (i : Nat) x, p.2[i]? = some x → w.cell? ⟨g, i, none⟩ = some x := fun p hp => by
    unfold gAll at hp
    split at hp
    · rename_i l hl; cases hp; have := tabs_part h g l hl; exact ⟨this.1, this.2.2⟩
    · rename_i hn
      split at hp
      · rename_i l hl; cases hp; exact strs_part hf g l hn hl
      · cases hp
  refine ⟨?_, fun e => e, fun p hp => (hal p hp).2, fun he => (her he).2, fun he => (hin he).2⟩
  cases hgt : gAll g with
  | some p => exact (hal p hgt).1
  | none =>
    unfold gAny at hg
    rw [hgt] at hg
    cases he : gerr g with
    | true => exact (her he).1
    | false => rw [he] at hg; exact (hin (by simpa using hg)).1
/-- A table of texts, out of what the row lists. -/
theorem cells_of_strs {H : Type} {enc : TypeId × Value → H} {P : Program} {w : World} {base : Nat} {sp : Nat → Bool} {held : Bool} {fuel : Nat} {t e : TypeId} {n : Nat} {cs : List Value} {zs : List (List UInt8)} {p : List MemPlace}
    (ht : P.underlying t = some (.array n e)) (he : P.underlying e = some .string) (hce : P.cellsOf e = 1) (hct : P.cellsOf t = n)
    (h : DataW.trod enc P w base sp held fuel t cs = some (.agg (zs.map fun z => .lit (.string z)), p)) : cs = gvalsS zs := by
  cases fuel with
  | zero => simp [DataW.trod] at h
  | succ fuel =>
    simp only [DataW.trod, ht, hce, hct, Nat.mul_one] at h
    split at h
    · rename_i hl
      obtain ⟨xs, hm, hx⟩ := Option.map_eq_some_iff.1 h
      have hxs : xs.map (·.1) = zs.map fun z => (DataW.lit (.string z) : DataW H) := by
        have := congrArg Prod.fst hx
        simpa using this
      have hxl : xs.length = n := by simpa using Lib.mapM_length hm
      have hzl : zs.length = n := by
        have := congrArg List.length hxs
        simp at this
        omega
      apply List.ext_getElem?
      intro i
      by_cases hi : i < n
      · obtain ⟨b, hb, hf⟩ := Lib.mapM_at hm i i (by simp [hi])
        obtain ⟨z, hc, rfl, _⟩ := DataW.trod_string he hf
        have h1 : cs[i]? = some (.string z) := by
          have := congrArg (·[0]?) hc
          simpa [List.getElem?_take, List.getElem?_drop] using this
        have h2 : (xs.map (·.1))[i]? = some (DataW.lit (.string z.data.toList) : DataW H) := by simp [hb]
        rw [hxs] at h2
        simp only [List.getElem?_map, Option.map_eq_some_iff, DataW.lit.injEq, Lit.string.injEq] at h2
        obtain ⟨z', hz', rfl⟩ := h2
        simp [h1, gvalsS, hz']
      · rw [List.getElem?_eq_none (by omega), List.getElem?_eq_none (by simp [gvalsS]; omega)]
    · cases h
theorem faults_of_laid {rest : List (String × DataW Unit)} {W : World} (h : laidMet Tryz.prog (("tabula/val.faults", Rows.laid_tabula_val_faults) :: rest) W) : ∀ (i : Nat) x, (gvalsS ((gstr 0).getD []))[i]? = some x → W.cell? ⟨0, i, none⟩ = some x := by
  have hg : Tryz.prog.globalNamed "tabula/val.faults" = some 0 := by kernel_rfl
  have hty : (Tryz.prog.globals[0]?).map (·.type) = some 79 := by kernel_rfl
  obtain ⟨ps, ⟨g', t', cs, fuel, p, q, hg', ht', hvar, hd, _, _⟩, _⟩ := h
  obtain rfl := Option.some.inj (hg.symm.trans hg')
  obtain rfl := Option.some.inj (hty.symm.trans ht')
  have he : (Rows.laid_tabula_val_faults : DataW Unit) = .agg (((gstr 0).getD []).map fun z => .lit (.string z)) := by kernel_rfl
  rw [he] at hd
  have hc := cells_of_strs Tryz.underlying79 Tryz.underlying9 (by kernel_rfl) (by kernel_rfl) hd
  intro i x hx
  have := World.var?_cell hg hvar i
  rw [this, ← hx, ← hc]
  simp
theorem maxlen_of_shape {W : World} (h : W.ShapedOpen Tryz.prog) : ∃ n, W.cell? ⟨3, 0, none⟩ = some (.int .i64 n) :=
  cell_of_shapedOpen_int (t := 3) (zero := #[.int .i64 0]) h (of_decide_eq_true (by kernel_rfl)) (by kernel_rfl) rfl (by kernel_rfl) (by kernel_rfl) Tryz.underlying3
theorem glob_of_laid {W : World} (h : laidMetH Tryz.prog Rows.valEachRow.laid W) (hs : W.ShapedOpen Tryz.prog) : GlobOK W fun _ => False := by
  rw [MakeChecks.laidMetH_plain _ _ _ (by kernel_rfl)] at h
  have hall := h
  obtain ⟨ps, hv, _⟩ := h
  have h3 := Lib.LaidVars_reads hv "unicode/utf8.first" Pinned.utf8First (by simp [Rows.valEachRow, Rows.laid_unicode_utf8_first])
  have h4 := Lib.LaidVars_reads hv "unicode/utf8.acceptRanges" Rows.laid_unicode_utf8_acceptRanges (by simp [Rows.valEachRow])
  have e3 : (Pinned.utf8First : DataW Unit) = Lib.firstData := by kernel_rfl
  rw [e3] at h3
  have e4 : (Rows.laid_unicode_utf8_acceptRanges : DataW Unit) = Lib.acceptData := by kernel_rfl
  rw [e4] at h4
  exact glob_of_tabs (utf8Tabs_of_readsT (U8Types.of196 layValid) layExtra h3 h4) (faults_of_laid (rest := Rows.valEachRow.laid.drop 2) hall.tail) (maxlen_of_shape hs)

/-- utf8.ValidString. -/
def eValid : Ent := fun args pre => match args, pre with
  | [.str l], [] => .chk (decide (l.length ≤ 9223372036854775807)) (.ret (.bool (Lib.validD l)) [])
  | _, _ => .fail
theorem valid_ok : EntOK Tryz.prog 128 eValid := fun args pre => by
  unfold eValid
  split
  · rename_i l
    refine ⟨fun hb => ?_, fun _ => trivial⟩
    have hl : l.length ≤ 9223372036854775807 := by simpa using hb
    intro w E vs hvs hp
    obtain ⟨x, zs, hx, hz, rfl⟩ := denL_cons.1 hvs
    simp only [denL, Option.some.injEq] at hz
    subst hz
    have hx : x = .string ⟨l.toArray⟩ := by simpa [den] using hx.symm
    subst hx
    have hc := Any.utf8_ValidString layValid ⟨l.toArray⟩ w (by simpa [ByteArray.size] using hl) (tabs_of_glob hp.glob)
    refine .inl ⟨128, _, Tryz.call128 _ _, hc.mono ?_⟩
    rintro e w' ⟨rfl, hb'⟩
    refine ⟨E, _, rfl, rfl, ⟨.refl _, hp.fresh, fun n o h => by simp at h, fun n b c o _ h => by simp at h, fun n b c hn he => (by rw [hp.fresh n hn] at he; cases he), fun k hk _ => hb'.block k hk, fun n m o o' b c b' c' _ _ h => by simp at h, hb'.size, hb'.os, hb'.tape, hb'.output⟩⟩
  · trivial

end Go.Proofs.YtdomenmfkbfakaaGreatDoor

/- What the texts of layer 2 share. -/
set_option linter.unusedVariables false
namespace Go.Proofs.YtdomenmfkbfakaaGreatDoor.Sx
open Go
/-- So many empty places, and no more. -/
def nonesB : Nat → List (Option PObj) → Bool
  | 0, [] => true
  | n + 1, none :: r => nonesB n r
  | _, _ => false
theorem nonesB_eq : ∀ (n : Nat) (l : List (Option PObj)), nonesB n l = true → l = List.replicate n none
  | 0, [], _ => rfl
  | 0, _ :: _, h => by cases h
  | n + 1, [], h => by cases h
  | n + 1, none :: r, h => by rw [List.replicate_succ, ← nonesB_eq n r h]
  | n + 1, some _ :: r, h => by cases h
end Go.Proofs.YtdomenmfkbfakaaGreatDoor.Sx
namespace Go.Proofs.YtdomenmfkbfakaaGreatDoor
open Go Sx
abbrev tab1 : Tab := tab0
theorem tab1_ok : TabOK Tryz.prog tab1 := tab0_ok
end Go.Proofs.YtdomenmfkbfakaaGreatDoor

/- Layer 2: what a text is, by the program's own test. -/
set_option linter.unusedVariables false
set_option linter.unusedSimpArgs false
namespace Go.Proofs.YtdomenmfkbfakaaGreatDoor
open Go Sx

/-- No sign from p on is below 32, and none is 127. -/
def ctlB (l : List UInt8) : Nat → Nat → Bool
  | 0, _ => true
  | n + 1, p => bcond (decide (p < l.length)) (bcond (decide (((Utf8.decode ⟨l.toArray⟩ p).1 : Int) < 32)) false (bcond (((Utf8.decode ⟨l.toArray⟩ p).1 : Int) == 127) false (ctlB l n (p + (Utf8.decode ⟨l.toArray⟩ p).2)))) true

def st56 (u l : List UInt8) (p : Nat) : PState :=
  ⟨[some (.str u), none, some (.bool false), none, none, none, some (.ptr 0 0), none, none, none, none, none, none, none, none, none, none, none], some (.raw (.iter l p)) :: List.replicate 64 none⟩
def fin56 (u : List UInt8) : PState :=
  ⟨[some (.str u), none, some (.bool false), none, none, none, none, none, none, none, none, none, none, none, none, none, none, none], List.replicate 64 none⟩

theorem round56 (u l : List UInt8) (p : Nat) : code noH Tryz.prog {} 0 64 1 ((loopBodies (bodyOf Tryz.f99)).headD .skip) (st56 u l p) (endK 0 64 (fun n => hasN [0, 2, 6] n) (fun n => hasN [0, 2] n)) =
    bcond (decide (p < l.length)) (bcond (decide (((Utf8.decode ⟨l.toArray⟩ p).1 : Int) < 32)) (some (.ret, fin56 u)) (bcond (((Utf8.decode ⟨l.toArray⟩ p).1 : Int) == 127) (some (.ret, fin56 u)) (some (.normal, st56 u l (p + (Utf8.decode ⟨l.toArray⟩ p).2))))) (some (.exit 0, fin56 u)) := by kernel_rfl

theorem loop56 (u l : List UInt8) : Tri Tryz.prog (.loop ((loopBodies (bodyOf Tryz.f99)).headD .skip)) (st56 u l 0).toA (bcond (ctlB l l.length 0) (.exit 0) .ret) (fin56 u).toA 0 := by
  refine loop_rounds (ι := { q : Nat × Nat // l.length ≤ q.1 + q.2 }) noH_ok (lv := {}) (NF := 64) (m := 1) (fun x hx id e h1 h2 => by cases h2) (fun n => hasN [0, 2, 6] n) (fun n => hasN [0, 2] n) (fun q => st56 u l q.1.1) (fun q => q.1.2) (fun q => (bcond (ctlB l q.1.2 q.1.1) (.exit 0) .ret, fin56 u)) ?_ (fun q => by simp only; cases ctlB l q.1.2 q.1.1 <;> simp [bcond]) ⟨(0, l.length), by simp⟩
  rintro ⟨⟨p, n⟩, hq⟩
  simp only at hq ⊢
  rw [round56]
  cases n with
  | zero => exact .inr (by rw [bcF (by simp; omega)]; rfl)
  | succ n =>
    simp only [ctlB]
    by_cases h1 : p < l.length
    · have e1 : decide (p < l.length) = true := by simpa using h1
      rw [e1]
      cases e2 : decide (((Utf8.decode ⟨l.toArray⟩ p).1 : Int) < 32) with
      | true => exact .inr rfl
      | false =>
        cases e3 : (((Utf8.decode ⟨l.toArray⟩ p).1 : Int) == 127) with
        | true => exact .inr rfl
        | false =>
          have hd : 1 ≤ (Utf8.decode ⟨l.toArray⟩ p).2 := Lib.width_pos _ _
          exact .inl ⟨⟨(p + (Utf8.decode ⟨l.toArray⟩ p).2, n), by simp only; omega⟩, by simp, rfl, rfl⟩
    · have e1 : decide (p < l.length) = false := by simpa using h1
      rw [e1]; exact .inr rfl

def e56 : Nat → PState → LAns := fun K t => match K, t with
  | 0, ⟨[some (.str u), none, some (.bool false), none, none, none, some (.ptr 0 0), none, none, none, none, none, none, none, none, none, none, none], some (.raw (.iter l 0)) :: rest⟩ =>
    .chk (nonesB 64 rest) (.br (ctlB l l.length 0) (.out (.exit 0) (fin56 u)) (.out .ret (fin56 u)))
  | _, _ => .fail
def lv56 : FuncId → Lv := fun f => match f with
  | 99 => { keep := fun _ => some [0, 2, 6], ent := fun i => match i with | 2 => some e56 | _ => none }
  | _ => {}
theorem lv56_ok : LvOK Tryz.prog lv56 := by
  intro f fn body hf hb K x hx id e hid he t
  by_cases h : f = 99
  · subst h
    obtain rfl : fn = Tryz.f99 := (Option.some.inj (Tryz.func99.symm.trans hf)).symm
    have hbody : body = bodyOf Tryz.f99 := by unfold bodyOf; rw [hb]; rfl
    subst hbody
    have h1 : loopBodies (bodyOf Tryz.f99) = [(loopBodies (bodyOf Tryz.f99)).headD .skip] := by kernel_rfl
    rw [h1] at hx
    have hx' := List.mem_singleton.1 hx
    have h2 : id = 2 := by
      have h3 : headReg ((loopBodies (bodyOf Tryz.f99)).headD .skip) = some 2 := by kernel_rfl
      rw [hx', h3] at hid; exact (Option.some.inj hid).symm
    subst h2
    have he' : e56 = e := Option.some.inj he
    subst he'
    rw [hx']
    clear hx hx' hid he hb hf h1
    unfold e56
    split
    · rename_i u l rest
      refine ⟨fun hn => ?_, fun _ => trivial⟩
      rw [nonesB_eq _ _ hn]
      have := loop56 u l
      refine ⟨fun hc => ?_, fun hc => ?_⟩
      · rw [bcT hc] at this; exact this
      · rw [bcF hc] at this; exact this
    · trivial
  · exfalso
    have : (lv56 f).ent id = none := by
      unfold lv56
      split
      · exact absurd rfl h
      · rfl
    rw [this] at he; cases he

def textB (l : List UInt8) : Bool := ctlB l l.length 0 && Lib.validD l
def eIsText : Ent := fun args pre => match args, pre with
  | [.str l], [] => .chk (decide (l.length ≤ 9223372036854775807)) (.ret (.bool (textB l)) [])
  | _, _ => .fail
def tab4 : Tab := (128, eValid) :: tab1
theorem tab4_ok : TabOK Tryz.prog tab4 := .cons valid_ok tab1_ok
theorem isText_ok : EntOK Tryz.prog 99 eIsText := fun args pre => by
  unfold eIsText
  split
  · rename_i l
    have e : Comes tab4 lv56 99 [.str l] [] (.br (ctlB l l.length 0) (.chk (decide (l.length ≤ 9223372036854775807)) (.ret (.bool (Lib.validD l)) [])) (.ret (.bool false) [])) := by unfold Comes; kernel_rfl
    refine of_run (ans_comes tab4_ok e lv56_ok) fun r h => ?_
    obtain ⟨h1, h⟩ := chk_run h
    rw [← h]
    simp only [Ans.run, Ans.chk, h1, textB]
    cases ctlB l l.length 0 with
    | true => rfl
    | false => rfl
  · trivial

end Go.Proofs.YtdomenmfkbfakaaGreatDoor

/- Layer 2: sheets' names, by the program; the first sign of a text, by the document's own answer. -/
set_option linter.unusedVariables false
set_option linter.unusedSimpArgs false
namespace Go.Proofs.YtdomenmfkbfakaaGreatDoor
open Go Sx

def tab5 : Tab := (99, eIsText) :: tab4
theorem tab5_ok : TabOK Tryz.prog tab5 := .cons isText_ok tab4_ok
/-- May a text be a sheet's name? -/
def sizeN (b : Nat) : Nat := if b < 194 then 0 else if b < 224 then 2 else if b < 240 then 3 else if b < 245 then 4 else 0
def loN (b : Nat) : Nat := if b = 224 then 160 else if b = 240 then 144 else 128
def hiN (b : Nat) : Nat := if b = 237 then 159 else if b = 244 then 143 else 191
def no0 : Ans := .ret (.int .i64 0) []
def signAns (b : Nat) (l : List UInt8) : Ans :=
  if b < 128 then .ret (.int .i64 1) [] else
  if sizeN b = 0 then no0 else
  .br (decide ((l.length : Int) < (sizeN b : Int))) no0
    (.chk (decide (0 ≤ (1 : Int) ∧ Int.toNat 1 < l.length)) (.br (decide (IntKind.i64.wrap (byteAt l (Int.toNat 1)) < (loN b : Int))) no0
      (.chk (decide (0 ≤ (1 : Int) ∧ Int.toNat 1 < l.length)) (.br (decide (IntKind.i64.wrap (byteAt l (Int.toNat 1)) > (hiN b : Int))) no0
        (if sizeN b = 2 then .ret (.int .i64 2) [] else
          .chk (decide (0 ≤ (2 : Int) ∧ Int.toNat 2 < l.length)) (.br (decide (byteAt l (Int.toNat 2) < 128)) no0
            (.chk (decide (0 ≤ (2 : Int) ∧ Int.toNat 2 < l.length)) (.br (decide (byteAt l (Int.toNat 2) > 191)) no0
              (if sizeN b = 3 then .ret (.int .i64 3) [] else
                .chk (decide (0 ≤ IntKind.i64.wrap (2 + 1) ∧ (IntKind.i64.wrap (2 + 1)).toNat < l.length)) (.br (decide (byteAt l (IntKind.i64.wrap (2 + 1)).toNat < 128)) no0
                  (.chk (decide (0 ≤ IntKind.i64.wrap (2 + 1) ∧ (IntKind.i64.wrap (2 + 1)).toNat < l.length)) (.br (decide (byteAt l (IntKind.i64.wrap (2 + 1)).toNat > 191)) no0
                    (.ret (.int .i64 4) [])))))))))))))

end Go.Proofs.YtdomenmfkbfakaaGreatDoor

/- Layer 2: the first sign of a text, by the document's own answer: the runs, by the first byte. -/
set_option linter.unusedVariables false
set_option linter.unusedSimpArgs false
namespace Go.Proofs.YtdomenmfkbfakaaGreatDoor
open Go Sx

theorem sr0 (t : List UInt8) : ((List.range 194).map (· + 0)).map (fun b : Nat => ent (R := AV × List PObj) Tryz.prog tab1 nolv 64 18446744073709551616 30 77 [.str (UInt8.ofNat b :: t)] [] pure2) = ((List.range 194).map (· + 0)).map (fun b : Nat => (signAns b (UInt8.ofNat b :: t)).run pure2) := by kernel_rfl
theorem sr1 (t : List UInt8) : ((List.range 10).map (· + 194)).map (fun b : Nat => ent (R := AV × List PObj) Tryz.prog tab1 nolv 64 18446744073709551616 30 77 [.str (UInt8.ofNat b :: t)] [] pure2) = ((List.range 10).map (· + 194)).map (fun b : Nat => (signAns b (UInt8.ofNat b :: t)).run pure2) := by kernel_rfl
theorem sr2 (t : List UInt8) : ((List.range 10).map (· + 204)).map (fun b : Nat => ent (R := AV × List PObj) Tryz.prog tab1 nolv 64 18446744073709551616 30 77 [.str (UInt8.ofNat b :: t)] [] pure2) = ((List.range 10).map (· + 204)).map (fun b : Nat => (signAns b (UInt8.ofNat b :: t)).run pure2) := by kernel_rfl
theorem sr3 (t : List UInt8) : ((List.range 10).map (· + 214)).map (fun b : Nat => ent (R := AV × List PObj) Tryz.prog tab1 nolv 64 18446744073709551616 30 77 [.str (UInt8.ofNat b :: t)] [] pure2) = ((List.range 10).map (· + 214)).map (fun b : Nat => (signAns b (UInt8.ofNat b :: t)).run pure2) := by kernel_rfl
theorem sr4 (t : List UInt8) : ((List.range 8).map (· + 224)).map (fun b : Nat => ent (R := AV × List PObj) Tryz.prog tab1 nolv 64 18446744073709551616 30 77 [.str (UInt8.ofNat b :: t)] [] pure2) = ((List.range 8).map (· + 224)).map (fun b : Nat => (signAns b (UInt8.ofNat b :: t)).run pure2) := by kernel_rfl
theorem sr5 (t : List UInt8) : ((List.range 8).map (· + 232)).map (fun b : Nat => ent (R := AV × List PObj) Tryz.prog tab1 nolv 64 18446744073709551616 30 77 [.str (UInt8.ofNat b :: t)] [] pure2) = ((List.range 8).map (· + 232)).map (fun b : Nat => (signAns b (UInt8.ofNat b :: t)).run pure2) := by kernel_rfl
theorem sr6 (t : List UInt8) : ((List.range 8).map (· + 240)).map (fun b : Nat => ent (R := AV × List PObj) Tryz.prog tab1 nolv 64 18446744073709551616 30 77 [.str (UInt8.ofNat b :: t)] [] pure2) = ((List.range 8).map (· + 240)).map (fun b : Nat => (signAns b (UInt8.ofNat b :: t)).run pure2) := by kernel_rfl
theorem sr7 (t : List UInt8) : ((List.range 8).map (· + 248)).map (fun b : Nat => ent (R := AV × List PObj) Tryz.prog tab1 nolv 64 18446744073709551616 30 77 [.str (UInt8.ofNat b :: t)] [] pure2) = ((List.range 8).map (· + 248)).map (fun b : Nat => (signAns b (UInt8.ofNat b :: t)).run pure2) := by kernel_rfl

theorem chunk {α : Type} {f g : Nat → α} {n k : Nat} (h : ((List.range n).map (· + k)).map f = ((List.range n).map (· + k)).map g) {b : Nat} (h1 : k ≤ b) (h2 : b < k + n) : f b = g b := by
  have := congrArg (·[b - k]?) h
  simp only [List.getElem?_map, List.getElem?_range (show b - k < n by omega), Option.map_some] at this
  rw [show b - k + k = b by omega] at this
  exact Option.some.inj this
theorem sign_run (t : List UInt8) (b : Nat) (hb : b < 256) : ent (R := AV × List PObj) Tryz.prog tab1 nolv 64 18446744073709551616 30 77 [.str (UInt8.ofNat b :: t)] [] pure2 = (signAns b (UInt8.ofNat b :: t)).run pure2 := by
  by_cases c0 : b < 194
  · exact chunk (sr0 t) (by omega) (by omega)
  by_cases c1 : b < 204
  · exact chunk (sr1 t) (by omega) (by omega)
  by_cases c2 : b < 214
  · exact chunk (sr2 t) (by omega) (by omega)
  by_cases c3 : b < 224
  · exact chunk (sr3 t) (by omega) (by omega)
  by_cases c4 : b < 232
  · exact chunk (sr4 t) (by omega) (by omega)
  by_cases c5 : b < 240
  · exact chunk (sr5 t) (by omega) (by omega)
  by_cases c6 : b < 248
  · exact chunk (sr6 t) (by omega) (by omega)
  exact chunk (sr7 t) (by omega) (by omega)

end Go.Proofs.YtdomenmfkbfakaaGreatDoor

/- Layer 2: the first sign of a text, by the document's own answer. -/
set_option linter.unusedVariables false
set_option linter.unusedSimpArgs false
namespace Go.Proofs.YtdomenmfkbfakaaGreatDoor
open Go Sx

def signN (l : List UInt8) : Nat :=
  if l = [] then 0 else if (l.getD 0 0).toNat < 128 then 1 else if sizeN (l.getD 0 0).toNat = 0 then 0 else if l.length < sizeN (l.getD 0 0).toNat then 0
  else if (l.getD 1 0).toNat < loN (l.getD 0 0).toNat ∨ hiN (l.getD 0 0).toNat < (l.getD 1 0).toNat then 0 else if sizeN (l.getD 0 0).toNat = 2 then 2
  else if (l.getD 2 0).toNat < 128 ∨ 191 < (l.getD 2 0).toNat then 0 else if sizeN (l.getD 0 0).toNat = 3 then 3
  else if (l.getD 3 0).toNat < 128 ∨ 191 < (l.getD 3 0).toNat then 0 else 4
theorem sizeN_cases (b : Nat) : sizeN b = 0 ∨ sizeN b = 2 ∨ sizeN b = 3 ∨ sizeN b = 4 := by unfold sizeN; split <;> (try split) <;> (try split) <;> (try split) <;> omega
theorem signAns_run (b : Nat) (hb : b < 256) (t : List UInt8) : (signAns b (UInt8.ofNat b :: t)).run pure2 = some (.int .i64 (signN (UInt8.ofNat b :: t) : Int), []) := by
  generalize hl : UInt8.ofNat b :: t = l
  have h0 : (l.getD 0 0).toNat = b := by rw [← hl]; simp; omega
  have hne : l ≠ [] := by rw [← hl]; simp
  have hw : ∀ i, byteAt l i = ((l.getD i 0).toNat : Int) ∧ (l.getD i 0).toNat < 256 := fun i => ⟨rfl, UInt8.toNat_lt _⟩
  have w1 : IntKind.i64.wrap (byteAt l (Int.toNat 1)) = ((l.getD 1 0).toNat : Int) := by
    show IntKind.i64.wrap ((l.getD 1 0).toNat : Int) = _
    exact i64_in (by have := (hw 1).2; omega) (by have := (hw 1).2; omega)
  have w3 : IntKind.i64.wrap (2 + 1) = 3 := by rfl
  unfold signAns signN
  rw [if_neg hne, h0, w1, w3]
  rw [(hw (Int.toNat 2)).1, (hw (Int.toNat 3)).1]
  simp only [show Int.toNat 1 = 1 from rfl, show Int.toNat 2 = 2 from rfl, show Int.toNat 3 = 3 from rfl]
  generalize (l.getD 1 0).toNat = b1
  generalize (l.getD 2 0).toNat = b2
  generalize (l.getD 3 0).toNat = b3
  generalize l.length = n
  by_cases c1 : b < 128
  · rw [if_pos c1, if_pos c1]; rfl
  rw [if_neg c1, if_neg c1]
  have hs := sizeN_cases b
  generalize sizeN b = z at *
  generalize loN b = lo
  generalize hiN b = hi
  by_cases c2 : z = 0
  · rw [if_pos c2, if_pos c2]; rfl
  rw [if_neg c2, if_neg c2]
  simp only [Ans.run, Ans.chk]
  by_cases c3 : n < z
  · rw [if_pos c3, bcT (by simpa using (by omega : (n : Int) < z))]; rfl
  rw [if_neg c3, bcF (by simpa using (by omega : ¬ (n : Int) < z)), bcT (by simp; omega)]
  by_cases c4 : b1 < lo
  · rw [if_pos (c := b1 < lo ∨ hi < b1) (.inl c4), bcT (by simpa using (by omega : (b1 : Int) < lo))]; rfl
  rw [bcF (by simpa using (by omega : ¬ (b1 : Int) < lo)), bcT (by simp; omega)]
  by_cases c5 : hi < b1
  · rw [if_pos (c := b1 < lo ∨ hi < b1) (.inr c5), bcT (by simpa using (by omega : (b1 : Int) > hi))]; rfl
  rw [if_neg (c := b1 < lo ∨ hi < b1) (by omega), bcF (by simpa using (by omega : ¬ (b1 : Int) > hi))]
  by_cases c6 : z = 2
  · rw [if_pos c6, if_pos c6]; rfl
  rw [if_neg c6, if_neg c6]
  simp only [Ans.run, Ans.chk]
  rw [bcT (by simp; omega)]
  by_cases c7 : b2 < 128
  · rw [if_pos (c := b2 < 128 ∨ 191 < b2) (.inl c7), bcT (by simpa using (by omega : (b2 : Int) < 128))]; rfl
  rw [bcF (by simpa using (by omega : ¬ (b2 : Int) < 128)), bcT (by simp; omega)]
  by_cases c8 : 191 < b2
  · rw [if_pos (c := b2 < 128 ∨ 191 < b2) (.inr c8), bcT (by simpa using (by omega : (b2 : Int) > 191))]; rfl
  rw [if_neg (c := b2 < 128 ∨ 191 < b2) (by omega), bcF (by simpa using (by omega : ¬ (b2 : Int) > 191))]
  by_cases c9 : z = 3
  · rw [if_pos c9, if_pos c9]; rfl
  rw [if_neg c9, if_neg c9]
  simp only [Ans.run, Ans.chk]
  rw [bcT (by simp; omega)]
  by_cases c10 : b3 < 128
  · rw [if_pos (c := b3 < 128 ∨ 191 < b3) (.inl c10), bcT (by simpa using (by omega : (b3 : Int) < 128))]; rfl
  rw [bcF (by simpa using (by omega : ¬ (b3 : Int) < 128)), bcT (by simp; omega)]
  by_cases c11 : 191 < b3
  · rw [if_pos (c := b3 < 128 ∨ 191 < b3) (.inr c11), bcT (by simpa using (by omega : (b3 : Int) > 191))]; rfl
  rw [if_neg (c := b3 < 128 ∨ 191 < b3) (by omega), bcF (by simpa using (by omega : ¬ (b3 : Int) > 191))]; rfl

end Go.Proofs.YtdomenmfkbfakaaGreatDoor

/- Layer 2: the first sign of a text, as an entry. -/
set_option linter.unusedVariables false
set_option linter.unusedSimpArgs false
namespace Go.Proofs.YtdomenmfkbfakaaGreatDoor
open Go Sx

def eSign : Ent := fun args pre => match args, pre with
  | [.str l], [] => .ret (.int .i64 (signN l : Int)) []
  | _, _ => .fail
theorem sign_ok : EntOK Tryz.prog 77 eSign := fun args pre => by
  unfold eSign
  split
  · rename_i l
    cases l with
    | nil =>
      have e : Comes tab1 nolv 77 [.str []] [] (.ret (.int .i64 0) []) := by unfold Comes; kernel_rfl
      exact ans_comes tab1_ok e
    | cons b t =>
      have hb : b.toNat < 256 := UInt8.toNat_lt _
      have h1 := sign_run t b.toNat hb
      rw [signAns_run _ hb] at h1
      have h2 : UInt8.ofNat b.toNat = b := UInt8.ofNat_toNat
      rw [h2] at h1
      exact meets_ent tab1_ok host h1
  · trivial
def tab6 : Tab := (77, eSign) :: tab1
theorem tab6_ok : TabOK Tryz.prog tab6 := .cons sign_ok tab1_ok

end Go.Proofs.YtdomenmfkbfakaaGreatDoor

/- Layer 2: what a text is, by the document's own answer. -/
set_option linter.unusedVariables false
set_option linter.unusedSimpArgs false
namespace Go.Proofs.YtdomenmfkbfakaaGreatDoor
open Go Sx

theorem signN_le (l : List UInt8) : signN l ≤ l.length := by
  unfold signN
  have hs := sizeN_cases (l.getD 0 0).toNat
  generalize sizeN (l.getD 0 0).toNat = z at *
  by_cases h : l = []
  · rw [if_pos h]; omega
  · have : 1 ≤ l.length := List.length_pos_iff.2 h
    rw [if_neg h]
    repeat' split
    all_goals omega
def txtB (l : List UInt8) : Nat → Nat → Bool
  | 0, _ => true
  | n + 1, p => bcond (decide (p < l.length)) (bcond (signN (l.drop p) == 0) false (bcond (decide ((l.getD p 0).toNat < 32)) false (bcond ((l.getD p 0).toNat == 127) false (txtB l n (p + signN (l.drop p)))))) true

def st58 (l : List UInt8) (i : Int) : PState := ⟨some (.str l) :: none :: some (.bool false) :: some (.int .i64 i) :: List.replicate 26 none, List.replicate 64 none⟩
def fin58 (l : List UInt8) : PState := ⟨some (.str l) :: none :: some (.bool false) :: none :: List.replicate 26 none, List.replicate 64 none⟩

theorem round58 (l : List UInt8) (p : Nat) : code (ent Tryz.prog tab6 nolv 64 1 1) Tryz.prog {} 0 64 1 ((loopBodies (bodyOf Tryz.f34)).headD .skip) (st58 l p) (endK 0 64 (fun n => hasN [0, 2, 3] n) (fun n => hasN [0, 2] n)) =
    bcond (decide ((p : Int) < (l.length : Int))) (bcond (decide (0 ≤ (p : Int) ∧ (p : Int).toNat ≤ l.length)) (bcond ((signN (List.take (l.length - (p : Int).toNat) (List.drop (p : Int).toNat l)) : Int) == 0) (some (.ret, fin58 l))
      (bcond (decide (0 ≤ (p : Int) ∧ (p : Int).toNat < l.length)) (bcond (decide (((l.getD (p : Int).toNat 0).toNat : Int) < 32)) (some (.ret, fin58 l)) (bcond (decide (0 ≤ (p : Int) ∧ (p : Int).toNat < l.length)) (bcond (((l.getD (p : Int).toNat 0).toNat : Int) == 127) (some (.ret, fin58 l))
        (some (.normal, st58 l (IntKind.i64.wrap ((p : Int) + (signN (List.take (l.length - (p : Int).toNat) (List.drop (p : Int).toNat l)) : Int)))))) none)) none)) none) (some (.exit 0, fin58 l)) := by kernel_rfl

theorem loop58 (l : List UInt8) (hl : l.length ≤ 9223372036854775807) : Tri Tryz.prog (.loop ((loopBodies (bodyOf Tryz.f34)).headD .skip)) (st58 l 0).toA (bcond (txtB l l.length 0) (.exit 0) .ret) (fin58 l).toA 0 := by
  refine loop_rounds (ι := { q : Nat × Nat // l.length ≤ q.1 + q.2 }) (ent_sound (NF := 64) (m := 1) tab6_ok host nolv_ok 1) (lv := {}) (NF := 64) (m := 1) (fun x hx id e h1 h2 => by cases h2) (fun n => hasN [0, 2, 3] n) (fun n => hasN [0, 2] n) (fun q => st58 l (q.1.1 : Int)) (fun q => q.1.2) (fun q => (bcond (txtB l q.1.2 q.1.1) (.exit 0) .ret, fin58 l)) ?_ (fun q => by simp only; cases txtB l q.1.2 q.1.1 <;> simp [bcond]) ⟨(0, l.length), by simp⟩
  rintro ⟨⟨p, n⟩, hq⟩
  simp only at hq ⊢
  rw [round58]
  simp only [Int.toNat_natCast]
  have ht : List.take (l.length - p) (List.drop p l) = List.drop p l := List.take_of_length_le (by simp)
  rw [ht]
  have hk := signN_le (l.drop p)
  rw [List.length_drop] at hk
  cases n with
  | zero => exact .inr (by rw [bcF (by simp; omega)]; rfl)
  | succ n =>
    simp only [txtB]
    by_cases h1 : p < l.length
    · rw [bcT (b := decide ((p : Int) < (l.length : Int))) (by simpa using h1), bcT (b := decide (p < l.length)) (by simpa using h1), bcT (b := decide (0 ≤ (p : Int) ∧ p ≤ l.length)) (by simp; omega)]
      by_cases h2 : signN (l.drop p) = 0
      · exact .inr (by rw [bcT (b := ((signN (l.drop p) : Int) == 0)) (by simpa using h2), bcT (b := (signN (l.drop p) == 0)) (by simpa using h2)]; rfl)
      · rw [bcF (b := ((signN (l.drop p) : Int) == 0)) (by simpa using h2), bcF (b := (signN (l.drop p) == 0)) (by simpa using h2)]
        rw [bcT (b := decide (0 ≤ (p : Int) ∧ p < l.length)) (by simpa using h1)]
        by_cases h3 : (l.getD p 0).toNat < 32
        · exact .inr (by rw [bcT (b := decide (((l.getD p 0).toNat : Int) < 32)) (decide_eq_true (by omega)), bcT (b := decide ((l.getD p 0).toNat < 32)) (decide_eq_true h3)]; rfl)
        · rw [bcF (b := decide (((l.getD p 0).toNat : Int) < 32)) (decide_eq_false (by omega)), bcF (b := decide ((l.getD p 0).toNat < 32)) (decide_eq_false h3), bcT (b := decide (0 ≤ (p : Int) ∧ p < l.length)) (by simpa using h1)]
          by_cases h4 : (l.getD p 0).toNat = 127
          · exact .inr (by rw [bcT (b := (((l.getD p 0).toNat : Int) == 127)) (beq_iff_eq.2 (by omega)), bcT (b := ((l.getD p 0).toNat == 127)) (beq_iff_eq.2 h4)]; rfl)
          · rw [bcF (b := (((l.getD p 0).toNat : Int) == 127)) (beq_eq_false_iff_ne.2 (by omega)), bcF (b := ((l.getD p 0).toNat == 127)) (beq_eq_false_iff_ne.2 h4)]
            refine .inl ⟨⟨(p + signN (l.drop p), n), by simp only; omega⟩, by simp, rfl, ?_⟩
            rw [i64_in (by omega) (by omega)]
            simp
    · exact .inr (by rw [bcF (b := decide ((p : Int) < (l.length : Int))) (by simpa using h1), bcF (b := decide (p < l.length)) (by simpa using h1)]; rfl)

def nonesW : Nat → List (Option AV) → Bool
  | 0, [] => true
  | n + 1, none :: r => nonesW n r
  | _, _ => false
theorem nonesW_eq : ∀ (n : Nat) (l : List (Option AV)), nonesW n l = true → l = List.replicate n none
  | 0, [], _ => rfl
  | 0, _ :: _, h => by cases h
  | n + 1, [], h => by cases h
  | n + 1, none :: r, h => by rw [List.replicate_succ, ← nonesW_eq n r h]
  | n + 1, some _ :: r, h => by cases h
def e58 : Nat → PState → LAns := fun K t => match K, t with
  | 0, ⟨some (.str l) :: none :: some (.bool false) :: some (.int .i64 i) :: rs, rm⟩ =>
    .chk (nonesW 26 rs) (.chk (nonesB 64 rm) (.chk (decide (i = 0)) (.chk (decide (l.length ≤ 9223372036854775807)) (.br (txtB l l.length 0) (.out (.exit 0) (fin58 l)) (.out .ret (fin58 l))))))
  | _, _ => .fail
def lv58 : FuncId → Lv := fun f => match f with
  | 34 => { keep := fun _ => some [0, 2, 3], ent := fun i => match i with | 2 => some e58 | _ => none }
  | _ => {}
theorem lv58_ok : LvOK Tryz.prog lv58 := by
  intro f fn body hf hb K x hx id e hid he t
  by_cases h : f = 34
  · subst h
    obtain rfl : fn = Tryz.f34 := (Option.some.inj (Tryz.func34.symm.trans hf)).symm
    have hbody : body = bodyOf Tryz.f34 := by unfold bodyOf; rw [hb]; rfl
    subst hbody
    have h1 : loopBodies (bodyOf Tryz.f34) = [(loopBodies (bodyOf Tryz.f34)).headD .skip] := by kernel_rfl
    rw [h1] at hx
    have hx' := List.mem_singleton.1 hx
    have h2 : id = 2 := by
      have h3 : headReg ((loopBodies (bodyOf Tryz.f34)).headD .skip) = some 2 := by kernel_rfl
      rw [hx', h3] at hid; exact (Option.some.inj hid).symm
    subst h2
    have he' : e58 = e := Option.some.inj he
    subst he'
    rw [hx']
    clear hx hx' hid he hb hf h1
    unfold e58
    split
    · rename_i l i rs rm
      refine ⟨fun g1 => ⟨fun g2 => ⟨fun g3 => ⟨fun g4 => ?_, fun _ => trivial⟩, fun _ => trivial⟩, fun _ => trivial⟩, fun _ => trivial⟩
      rw [nonesW_eq _ _ g1, nonesB_eq _ _ g2, of_decide_eq_true g3]
      have := loop58 l (of_decide_eq_true g4)
      refine ⟨fun hc => ?_, fun hc => ?_⟩
      · rw [bcT hc] at this; exact this
      · rw [bcF hc] at this; exact this
    · trivial
  · exfalso
    have : (lv58 f).ent id = none := by
      unfold lv58
      split
      · exact absurd rfl h
      · rfl
    rw [this] at he; cases he

def eIsText2 : Ent := fun args pre => match args, pre with
  | [.str l], [] => .chk (decide (l.length ≤ 9223372036854775807)) (.ret (.bool (txtB l l.length 0)) [])
  | _, _ => .fail
theorem isText2_ok : EntOK Tryz.prog 34 eIsText2 := fun args pre => by
  unfold eIsText2
  split
  · rename_i l
    have e : Comes tab6 lv58 34 [.str l] [] (.chk (decide (l.length ≤ 9223372036854775807)) (.br (txtB l l.length 0) (.ret (.bool true) []) (.ret (.bool false) []))) := by unfold Comes; kernel_rfl
    refine of_run (ans_comes tab6_ok e lv58_ok) fun r h => ?_
    obtain ⟨h1, h⟩ := chk_run h
    rw [← h]
    simp only [Ans.run, Ans.chk, h1]
    cases txtB l l.length 0 with
    | true => rfl
    | false => rfl
  · trivial
end Go.Proofs.YtdomenmfkbfakaaGreatDoor

/- Law 3: which of n things; a right text out of any bytes. -/
set_option linter.unusedVariables false
set_option linter.unusedSimpArgs false
namespace Go.Proofs.YtdomenmfkbfakaaGreatDoor
open Go Sx
-- pick
theorem pk_comes (c n : Int) : Comes [] nolv 24 [.int .i64 c, .int .i64 n] [] (.br (decide (c < 0)) (.chk (n != 0) (.ret (.int .i64 (Int.tmod (w64 (0 - w64 (c + 1))) n)) [])) (.chk (n != 0) (.ret (.int .i64 (Int.tmod c n)) []))) := by unfold Comes; kernel_rfl
def ePick : Ent := fun args pre => match args, pre with
  | [.int .i64 c, .int .i64 n], [] => .chk (inI c) (.chk (decide (0 < n ∧ n < 1000000000)) (.ret (.int .i64 (pickS c n)) []))
  | _, _ => .fail
theorem ePick_ok : EntOK Tryz.prog 24 ePick := fun args pre => by
  unfold ePick
  split
  · rename_i c n
    refine ⟨fun g1 => ⟨fun g2 => ?_, fun _ => trivial⟩, fun _ => trivial⟩
    have g2 := of_decide_eq_true g2
    have hc := inI_iff.1 g1
    refine of_run (x := .br (decide (c < 0)) _ _) (y := .ret (.int .i64 (pickS c n)) []) (ans_comes .nil (pk_comes c n)) fun r hr => ?_
    rw [← hr]
    unfold pickS
    by_cases h : c < 0
    · rw [brT (decide_eq_true h), chkT (bne_iff_ne.2 (by omega)), if_pos h, w64_of (a := c + 1) (inI_iff.2 ⟨by omega, by omega⟩), w64_of (a := 0 - (c + 1)) (inI_iff.2 ⟨by omega, by omega⟩), Int.zero_sub]
    · rw [brF (decide_eq_false h), chkT (bne_iff_ne.2 (by omega)), if_neg h]
  · trivial
-- Text
def sTx (s o : List UInt8) (i : Int) : PState := ⟨some (.str s) :: none :: none :: some (.str o) :: some (.int .i64 i) :: nn 42, nn 64⟩
def sTxX (o : List UInt8) : PState := ⟨none :: none :: none :: some (.str o) :: nn 43, nn 64⟩
noncomputable abbrev loopTx1 : Code := (loopBodies (bodyOf Tryz.f32)).headD .skip
def sgT (s : List UInt8) (i : Int) : Nat := signN (List.take (s.length - i.toNat) (List.drop i.toNat s))
def pcT (s : List UInt8) (i : Int) : List UInt8 := List.take ((w64 (i + sgT s i)).toNat - i.toNat) (List.drop i.toNat s)
def takeT (s o : List UInt8) (i : Int) : Option (Ex × PState) :=
  chks (some (.normal, sTx s (o ++ pcT s i) (w64 (i + sgT s i)))) [decide (0 ≤ i ∧ 0 ≤ w64 (i + sgT s i) ∧ i.toNat ≤ (w64 (i + sgT s i)).toNat ∧ (w64 (i + sgT s i)).toNat ≤ s.length), decide (o.length + (pcT s i).length ≤ 9223372036854775807)]
theorem rTx (s o : List UInt8) (i : Int) : code (ent Tryz.prog tab6 nolv 64 1 20) Tryz.prog {} 0 64 1 loopTx1 (sTx s o i) (endK 0 64 (fun n => hasN [0, 3, 4] n) (fun n => hasN [3] n))
  = bcond (decide (i < (s.length : Int))) (bcond (decide ((o.length : Int) < 37)) (chks (bcond (((sgT s i : Nat) : Int) == 0) (some (.normal, sTx s o (up1 i)))
      (chks (bcond (decide (byteAt s i.toNat < 32)) (some (.normal, sTx s o (up1 i))) (chks (bcond (byteAt s i.toNat == 127) (some (.normal, sTx s o (up1 i))) (takeT s o i)) [decide (0 ≤ i ∧ i.toNat < s.length)])) [decide (0 ≤ i ∧ i.toNat < s.length)])) [decide (0 ≤ i ∧ i.toNat ≤ s.length)])
      (some (.exit 0, sTxX o))) (some (.exit 0, sTxX o)) := by kernel_rfl
/-- Is a sign none, or none that a text has? -/
def badT (s : List UInt8) (p : Nat) : Bool := (signN (s.drop p) == 0) || (decide ((s.getD p 0).toNat < 32) || ((s.getD p 0).toNat == 127))
def txS (s : List UInt8) : Nat → Nat → List UInt8 → List UInt8
  | 0, _, o => o
  | n + 1, p, o => bcond (decide (p < s.length ∧ o.length < 37)) (bcond (badT s p) (txS s n (p + 1) o) (txS s n (p + signN (s.drop p)) (o ++ (s.drop p).take (signN (s.drop p))))) o
theorem byteAt_nat (s : List UInt8) (p : Nat) : byteAt s p = ((s.getD p 0).toNat : Int) := rfl
theorem txS_done {s : List UInt8} {n p : Nat} {o : List UInt8} (h : ¬(p < s.length ∧ o.length < 37)) : txS s n p o = o := by
  cases n with
  | zero => rfl
  | succ n => unfold txS; rw [bcF (decide_eq_false h)]
theorem sign_le4 (L : List UInt8) : signN L ≤ 4 := by
  unfold signN; repeat' split
  all_goals omega
theorem up1_63 {j : Nat} (h : j < 9223372036854775807) : up1 (j : Int) = ((j + 1 : Nat) : Int) := by unfold up1; rw [i64_in (by omega) (by omega)]; rfl
theorem roundTx {s o : List UInt8} {p n : Nat} (hs : s.length ≤ 9223372036854775807) (hn : s.length ≤ p + n) :
    (∃ q o', (s.length ≤ q + (n - 1) ∧ 0 < n ∧ txS s n p o = txS s (n - 1) q o') ∧ code (ent Tryz.prog tab6 nolv 64 1 20) Tryz.prog {} 0 64 1 loopTx1 (sTx s o p) (endK 0 64 (fun n => hasN [0, 3, 4] n) (fun n => hasN [3] n)) = some (.normal, sTx s o' q)) ∨
    code (ent Tryz.prog tab6 nolv 64 1 20) Tryz.prog {} 0 64 1 loopTx1 (sTx s o p) (endK 0 64 (fun n => hasN [0, 3, 4] n) (fun n => hasN [3] n)) = some (.exit 0, sTxX (txS s n p o)) := by
  have rd := rTx s o (p : Int)
  by_cases h1 : p < s.length
  · rw [bcT (b := decide ((p : Int) < (s.length : Int))) (decide_eq_true (by omega))] at rd
    by_cases h2 : o.length < 37
    · have hk4 := sign_le4 (s.drop p)
      have hk := signN_le (s.drop p)
      rw [List.length_drop] at hk
      have e : sgT s (p : Int) = signN (s.drop p) := by unfold sgT; rw [Int.toNat_natCast, List.take_of_length_le (by simp)]
      have ew : w64 ((p : Int) + (signN (s.drop p) : Nat)) = ((p + signN (s.drop p) : Nat) : Int) := by rw [w64_of (inI_iff.2 ⟨by omega, by omega⟩)]; push_cast; rfl
      have ep : pcT s (p : Int) = (s.drop p).take (signN (s.drop p)) := by unfold pcT; rw [e, ew, Int.toNat_natCast, Int.toNat_natCast, Nat.add_sub_cancel_left]
      cases n with
      | zero => omega
      | succ n =>
      rw [bcT (b := decide ((o.length : Int) < 37)) (decide_eq_true (by omega)), chks_true (by simp; omega), e, up1_63 (by omega), Int.toNat_natCast, byteAt_nat] at rd
      left
      rw [txS, bcT (b := decide (p < s.length ∧ o.length < 37)) (decide_eq_true ⟨h1, h2⟩), Nat.add_sub_cancel]
      have hx : ∀ c ∈ [decide (0 ≤ (p : Int) ∧ p < s.length)], c = true := by simp; omega
      by_cases h3 : signN (s.drop p) = 0
      · rw [bcT (beq_iff_eq.2 (by omega))] at rd
        exact ⟨p + 1, o, ⟨by omega, by omega, by unfold badT; rw [h3]; rfl⟩, rd⟩
      rw [bcF (beq_eq_false_iff_ne.2 (by omega)), chks_true hx] at rd
      by_cases h4 : (s.getD p 0).toNat < 32
      · rw [bcT (decide_eq_true (by omega))] at rd
        exact ⟨p + 1, o, ⟨by omega, by omega, by unfold badT; rw [decide_eq_true h4, Bool.true_or, Bool.or_true]; rfl⟩, rd⟩
      rw [bcF (decide_eq_false (by omega)), chks_true hx] at rd
      by_cases h5 : (s.getD p 0).toNat = 127
      · rw [bcT (beq_iff_eq.2 (by omega))] at rd
        exact ⟨p + 1, o, ⟨by omega, by omega, by unfold badT; rw [h5]; simp [bcond]⟩, rd⟩
      rw [bcF (beq_eq_false_iff_ne.2 (by omega))] at rd
      unfold takeT at rd
      rw [ep, e, ew, chks_true (by simp; omega)] at rd
      refine ⟨p + signN (s.drop p), o ++ (s.drop p).take (signN (s.drop p)), ⟨by omega, by omega, ?_⟩, rd⟩
      unfold badT; rw [beq_eq_false_iff_ne.2 h3, decide_eq_false h4, beq_eq_false_iff_ne.2 h5]; rfl
    · rw [bcF (b := decide ((o.length : Int) < 37)) (decide_eq_false (by omega))] at rd
      exact .inr (by rw [rd, txS_done (by omega)])
  · rw [bcF (b := decide ((p : Int) < (s.length : Int))) (decide_eq_false (by omega))] at rd
    exact .inr (by rw [rd, txS_done (by omega)])
theorem loopTx {s : List UInt8} (hs : s.length ≤ 9223372036854775807) : Tri Tryz.prog (.loop loopTx1) (sTx s [] 0).toA (.exit 0) (sTxX (txS s s.length 0 [])).toA 0 := by
  have key := loop_rounds (ent_sound (T := tab6) tab6_ok host nolv_ok (NF := 64) (m := 1) 20) (NF := 64) (m := 1) (x := loopTx1) (K := 0) loops_none (fun n => hasN [0, 3, 4] n) (fun n => hasN [3] n) (ι := { q : Nat × Nat × List UInt8 // s.length ≤ q.1 + q.2.1 }) (fun j => sTx s j.1.2.2 (j.1.1 : Int)) (fun j => j.1.2.1) (fun j => (.exit 0, sTxX (txS s j.1.2.1 j.1.1 j.1.2.2))) ?_ (fun j => by simp) ⟨(0, s.length, []), by simp⟩
  · exact key
  rintro ⟨⟨p, n, o⟩, hn⟩
  simp only at hn ⊢
  rcases roundTx (o := o) hs hn with ⟨q, o', ⟨h1, h2, h3⟩, h4⟩ | h
  · exact .inl ⟨⟨(q, n - 1, o'), h1⟩, by show n - 1 < n; omega, by simp only [h3], h4⟩
  · exact .inr h
def outTx (c : Bool) (o : List UInt8) : LAns := .chk c (.out (.exit 0) (sTxX o))
noncomputable def lvTx (s : List UInt8) (c : Bool) (o : List UInt8) : FuncId → Lv := lvOf 32 (fun _ => some [0, 3, 4]) (oneL 3 (eAt 0 (sTx s [] 0) (outTx c o)))
theorem tx_comes (s : List UInt8) (c : Bool) (o : List UInt8) : Comes [] (lvTx s c o) 32 [.str s] [] (.chk (eqSt (sTx s [] 0) (sTx s [] 0)) (.chk c (.ret (.str o) []))) := by unfold Comes; kernel_rfl
def textL (s : List UInt8) : List UInt8 := txS s s.length 0 []
def eTx (f : List UInt8 → List UInt8) : Ent := fun args pre => match args, pre with
  | [.str s], [] => .chk (decide (s.length ≤ 9223372036854775807)) (.ret (.str (f s)) [])
  | _, _ => .fail
theorem eTx_ok : EntOK Tryz.prog 32 (eTx textL) := fun args pre => by
  unfold eTx
  split
  · rename_i s
    refine ⟨fun g => ?_, fun _ => trivial⟩
    exact meets_ent (pre := []) (post := []) .nil host ((tx_comes s true (textL s)).trans (by rw [chkT (eqSt_refl _), chkT rfl]; rfl)) (lvOne_ok (x := loopTx1) Tryz.func32 (by kernel_rfl) fun K t => eAt_ok (a := outTx true (textL s)) ⟨fun _ => loopTx (of_decide_eq_true g), fun _ => trivial⟩ K t)
  · trivial
end Go.Proofs.YtdomenmfkbfakaaGreatDoor

/- Layer 3: small letters in the place of great ones: letters.Small of any text. -/
set_option linter.unusedVariables false
set_option linter.unusedSimpArgs false
namespace Go.Proofs.YtdomenmfkbfakaaGreatDoor
open Go Sx
theorem sb_comes (c : Int) : Comes [] nolv 97 [.int .u8 c] [] (.br (decide (c ≥ 65)) (.br (decide (c ≤ 90)) (.ret (.int .u8 (IntKind.u8.wrap (IntKind.u8.wrap (c - 65) + 97))) []) (.ret (.int .u8 c) [])) (.ret (.int .u8 c) [])) := by unfold Comes; kernel_rfl
def sbI (c : Int) : Int := bcond (decide (65 ≤ c ∧ c ≤ 90)) (c + 32) c
def eSb (g : Int → Int) : Ent := fun args pre => match args, pre with
  | [.int .u8 c], [] => .chk (decide (0 ≤ c ∧ c < 256)) (.ret (.int .u8 (g c)) [])
  | _, _ => .fail
theorem eSb_ok : EntOK Tryz.prog 97 (eSb sbI) := fun args pre => by
  unfold eSb
  split
  · rename_i c
    refine ⟨fun g => ?_, fun _ => trivial⟩
    have g := of_decide_eq_true g
    refine meets_ent (pre := []) (post := []) .nil host ((sb_comes c).trans ?_) nolv_ok
    unfold sbI
    by_cases h1 : c ≥ 65
    · rw [brT (decide_eq_true h1)]
      by_cases h2 : c ≤ 90
      · rw [brT (decide_eq_true h2), decide_eq_true (show 65 ≤ c ∧ c ≤ 90 from ⟨h1, h2⟩), u8_in (n := c - 65) (by omega) (by omega), u8_in (by omega) (by omega), show c - 65 + 97 = c + 32 by omega]; rfl
      · rw [brF (decide_eq_false h2), decide_eq_false (fun h => h2 h.2)]; rfl
    · rw [brF (decide_eq_false h1), decide_eq_false (fun h => h1 h.1)]; rfl
  · trivial
def sSm (u : List UInt8) (n : Nat) (i : Int) : PState := ⟨nn 3 ++ some (.vec 0 n) :: (nn 4 ++ some (.vec 0 n) :: some (.int .i64 n) :: some (.int .i64 i) :: nn 12), some (.vecB u 5) :: nn 64⟩
def sSmX (u : List UInt8) (n : Nat) : PState := ⟨nn 3 ++ some (.vec 0 n) :: nn 19, some (.vecB u 5) :: nn 64⟩
noncomputable abbrev loopSml : Code := (loopBodies (bodyOf Tryz.f46)).headD .skip
def byI (u : List UInt8) (i : Int) : Int := byteAt u (i.toNat * 1)
def inB (u : List UInt8) (i : Int) : Bool := decide (i.toNat * 1 < u.length)
theorem rSml (g : Int → Int) (u : List UInt8) (n : Nat) (i : Int) : code (ent Tryz.prog [(97, eSb g)] nolv 64 1 20) Tryz.prog {} 0 64 1 loopSml (sSm u n i) (endK 0 64 (fun n => hasN [3, 8, 9, 10] n) (fun n => hasN [3] n))
  = bcond (decide (i < (n : Int))) (chks (chks (some (.normal, sSm (u.set (i.toNat * 1) (toByte (g (byI u i)))) n (up1 i))) [decide (0 ≤ byI u i ∧ byI u i < 256), ixN i n, inB u i && decide (0 ≤ g (byI u i) ∧ g (byI u i) < 256)]) [ixN i n, inB u i]) (some (.exit 0, sSmX u n)) := by kernel_rfl
def sbB (c : UInt8) : UInt8 := toByte (sbI (c.toNat : Int))
def smS (l : List UInt8) (p : Nat) : List UInt8 := (l.take p).map sbB ++ l.drop p
theorem smS_len {l : List UInt8} {p : Nat} (h : p ≤ l.length) : (smS l p).length = l.length := by unfold smS; simp; omega
theorem smS_get {l : List UInt8} {p : Nat} (h : p < l.length) : (smS l p).getD p 0 = l[p] := by
  unfold smS
  rw [List.drop_eq_getElem_cons h, List.getD_eq_getElem?_getD, List.getElem?_append_right (by simp; omega)]
  simp [show min p l.length = p by omega, List.getElem?_eq_getElem h]
theorem smS_next {l : List UInt8} {p : Nat} (h : p < l.length) : (smS l p).set p (sbB l[p]) = smS l (p + 1) := by
  have hl : ((l.take p).map sbB).length = p := by simp; omega
  unfold smS
  rw [List.drop_eq_getElem_cons h, List.take_succ_eq_append_getElem h, List.map_append, List.append_assoc, List.set_append_right _ _ (by omega), hl, Nat.sub_self]
  rfl
theorem sbI_bd {c : Int} (h : 0 ≤ c ∧ c < 256) : 0 ≤ sbI c ∧ sbI c < 256 := by
  unfold sbI
  by_cases g : 65 ≤ c ∧ c ≤ 90
  · rw [decide_eq_true g]; simp only [bcond]; omega
  · rw [decide_eq_false g]; simp only [bcond]; omega
theorem loopSm {l : List UInt8} (hl : l.length ≤ 9223372036854775807) : Tri Tryz.prog (.loop loopSml) (sSm l l.length 0).toA (.exit 0) (sSmX (l.map sbB) l.length).toA 0 := by
  have key := loop_rounds (ent_sound (T := [(97, eSb sbI)]) (.cons eSb_ok .nil) host nolv_ok (NF := 64) (m := 1) 20) (NF := 64) (m := 1) (x := loopSml) (K := 0) loops_none (fun n => hasN [3, 8, 9, 10] n) (fun n => hasN [3] n) (ι := { p : Nat // p ≤ l.length }) (fun p => sSm (smS l p.1) l.length (p.1 : Int)) (fun p => l.length - p.1) (fun p => (.exit 0, sSmX (l.map sbB) l.length)) ?_ (fun j => by simp) ⟨0, Nat.zero_le _⟩
  · have e : smS l 0 = l := by unfold smS; simp
    simp only [e] at key
    exact key
  rintro ⟨p, hp⟩
  simp only
  have rd := rSml sbI (smS l p) l.length (p : Int)
  by_cases h : p < l.length
  · have eb : byI (smS l p) (p : Int) = (l[p].toNat : Int) := by unfold byI; rw [Int.toNat_natCast, Nat.mul_one, byteAt_nat, smS_get h]
    have hb : 0 ≤ ((l[p].toNat : Nat) : Int) ∧ ((l[p].toNat : Nat) : Int) < 256 := ⟨by omega, by have := UInt8.toNat_lt l[p]; omega⟩
    have hi : inB (smS l p) (p : Int) = true := by unfold inB; rw [smS_len hp]; exact decide_eq_true (by omega)
    rw [bcT (decide_eq_true (by omega)), chks_true (all2 (ixN_nat h) hi), eb, chks_true (all3' (decide_eq_true hb) (ixN_nat h) (by rw [hi, decide_eq_true (sbI_bd hb)]; rfl)), up1_63 (by omega), Int.toNat_natCast, Nat.mul_one] at rd
    refine .inl ⟨⟨p + 1, h⟩, by simp only; omega, trivial, ?_⟩
    rw [rd, show toByte (sbI (l[p].toNat : Int)) = sbB l[p] from rfl, smS_next h]
  · obtain rfl : p = l.length := by omega
    rw [bcF (decide_eq_false (by omega))] at rd
    have e : smS l l.length = l.map sbB := by unfold smS; simp
    exact .inr (by rw [rd, e])
def outSm (n : Nat) (c : Bool) (u : List UInt8) : LAns := .chk c (.out (.exit 0) (sSmX u n))
noncomputable def lvSm (l : List UInt8) (c : Bool) (u : List UInt8) : FuncId → Lv := lvOf 46 (fun _ => some [3, 8, 9, 10]) (oneL 3 (eAt 0 (sSm l l.length 0) (outSm l.length c u)))
theorem sm_comes (l u : List UInt8) (c : Bool) : Comes [] (lvSm l c u) 46 [.str l] [] (.chk (eqSt (sSm l l.length 0) (sSm l l.length 0)) (.chk c (.chk (decide (l.length ≤ u.length)) (.ret (.str (u.take l.length)) [])))) := by unfold Comes; kernel_rfl
def smallL (l : List UInt8) : List UInt8 := l.map sbB
theorem eSmF_ok : EntOK Tryz.prog 46 (eSmF smallL) := fun args pre => by
  unfold eSmF
  split
  · rename_i l
    refine ⟨fun g => ?_, fun _ => trivial⟩
    have g := of_decide_eq_true g
    refine meets_ent (pre := []) (post := []) .nil host ((sm_comes l (smallL l) true).trans ?_) (lvOne_ok (x := loopSml) Tryz.func46 (by kernel_rfl) fun K t => eAt_ok (a := outSm l.length true (smallL l)) ⟨fun _ => loopSm (by omega), fun _ => trivial⟩ K t)
    have hl : (smallL l).length = l.length := by unfold smallL; simp
    rw [chkT (eqSt_refl _), chkT rfl, chkT (decide_eq_true (by omega)), ← hl, List.take_length]; rfl
  · trivial
end Go.Proofs.YtdomenmfkbfakaaGreatDoor

/- Layer 2: what is a text by the document's own answer is one by the program. -/
set_option linter.unusedVariables false
set_option linter.unusedSimpArgs false
namespace Go.Proofs.YtdomenmfkbfakaaGreatDoor
open Go Sx

theorem tab_same : ((List.range 256).all fun b => (sizeN b == 0) || (Lib.firstT b % 8 == sizeN b && Lib.accLo (Lib.firstT b / 16) == loN b && Lib.accHi (Lib.firstT b / 16) == hiN b)) = true := by kernel_rfl
theorem check_sign (L : List UInt8) (h0 : 128 ≤ (L.getD 0 0).toNat) (hk : signN L ≠ 0) :
    Lib.checkN L.length (L.getD 1 0).toNat (L.getD 2 0).toNat (L.getD 3 0).toNat (Lib.firstT (L.getD 0 0).toNat % 8) (Lib.accLo (Lib.firstT (L.getD 0 0).toNat / 16)) (Lib.accHi (Lib.firstT (L.getD 0 0).toNat / 16)) = some (signN L) := by
  have hz := sizeN_cases (L.getD 0 0).toNat
  have hne : L ≠ [] := fun e => hk (by unfold signN; rw [if_pos e])
  have ht := List.all_eq_true.1 tab_same (L.getD 0 0).toNat (List.mem_range.2 (UInt8.toNat_lt _))
  unfold signN at hk ⊢
  rw [if_neg hne, if_neg (by omega)] at hk ⊢
  generalize (L.getD 0 0).toNat = b at *
  generalize (L.getD 1 0).toNat = b1 at *
  generalize (L.getD 2 0).toNat = b2 at *
  generalize (L.getD 3 0).toNat = b3 at *
  generalize L.length = n at *
  have hz0 : sizeN b ≠ 0 := fun e => hk (by rw [if_pos e])
  simp only [Bool.or_eq_true, beq_iff_eq, Bool.and_eq_true] at ht
  rcases ht with ht | ⟨⟨e1, e2⟩, e3⟩
  · exact absurd ht hz0
  rw [e1, e2, e3]
  generalize sizeN b = z at *
  generalize loN b = lo at *
  generalize hiN b = hi at *
  unfold Lib.checkN
  rcases hz with rfl | rfl | rfl | rfl
  · exact absurd rfl hz0
  all_goals
    simp only [Nat.reduceEqDiff, if_false, if_true] at hk ⊢
    repeat' split at hk
    all_goals first | exact absurd rfl hk | skip
    all_goals (repeat' split)
    all_goals first | rfl | (exfalso; omega)
theorem sign_width (L : List UInt8) (h0 : 128 ≤ (L.getD 0 0).toNat) (hk : signN L ≠ 0) : (Lib.decodeL L).2 = signN L := by
  have hne : L ≠ [] := fun e => hk (by unfold signN; rw [if_pos e])
  have hc := check_sign L h0 hk
  rw [Lib.decodeL_N]
  rcases Lib.check_decode L.length (L.getD 0 0).toNat (L.getD 1 0).toNat (L.getD 2 0).toNat (L.getD 3 0).toNat (List.length_pos_iff.2 hne) h0 (UInt8.toNat_lt _) (UInt8.toNat_lt _) (UInt8.toNat_lt _) (UInt8.toNat_lt _) with ⟨h1, _⟩ | ⟨k, _, h1, h2⟩
  · rw [hc] at h1; cases h1
  · rw [hc] at h1; cases h1; exact h2

theorem text_of (l : List UInt8) : ∀ (n p : Nat), l.length ≤ p + n → txtB l n p = true → ctlB l n p = true ∧ Lib.validD (l.drop p) = true
  | 0, p, hn, _ => ⟨rfl, by rw [List.drop_of_length_le (by omega)]; rfl⟩
  | n + 1, p, hn, h => by
    simp only [txtB, ctlB] at h ⊢
    by_cases hp : p < l.length
    · rw [bcT (b := decide (p < l.length)) (decide_eq_true hp)] at h ⊢
      have hnz : signN (l.drop p) ≠ 0 := fun e => by rw [bcT (b := (signN (l.drop p) == 0)) (beq_iff_eq.2 e)] at h; cases h
      rw [bcF (b := (signN (l.drop p) == 0)) (beq_eq_false_iff_ne.2 hnz)] at h
      have h32 : ¬ (l.getD p 0).toNat < 32 := fun e => by rw [bcT (b := decide ((l.getD p 0).toNat < 32)) (decide_eq_true e)] at h; cases h
      rw [bcF (b := decide ((l.getD p 0).toNat < 32)) (decide_eq_false h32)] at h
      have h127 : (l.getD p 0).toNat ≠ 127 := fun e => by rw [bcT (b := ((l.getD p 0).toNat == 127)) (beq_iff_eq.2 e)] at h; cases h
      rw [bcF (b := ((l.getD p 0).toNat == 127)) (beq_eq_false_iff_ne.2 h127)] at h
      have hL0 : ((l.drop p).getD 0 0).toNat = (l.getD p 0).toNat := by simp [List.getD_eq_getElem?_getD]
      have hdl : Lib.decodeL (l.drop p) = Utf8.decode ⟨l.toArray⟩ p := Lib.decodeL_drop ⟨l.toArray⟩ p
      have hLne : l.drop p ≠ [] := by simp; omega
      have hwr : (Utf8.decode ⟨l.toArray⟩ p).2 = signN (l.drop p) ∧ 32 ≤ (Utf8.decode ⟨l.toArray⟩ p).1 ∧ (Utf8.decode ⟨l.toArray⟩ p).1 ≠ 127 ∧ ¬ ((Utf8.decode ⟨l.toArray⟩ p).1 = 65533 ∧ (Utf8.decode ⟨l.toArray⟩ p).2 = 1) := by
        have hsz : p < (⟨l.toArray⟩ : ByteArray).size := by simpa [ByteArray.size] using hp
        have hby : ((⟨l.toArray⟩ : ByteArray)[p]'hsz).toNat = (l.getD p 0).toNat := by
          show (l.toArray[p]'(by simpa using hp)).toNat = _
          simp [List.getD_eq_getElem?_getD, List.getElem?_eq_getElem hp]
        by_cases hlt : (l.getD p 0).toNat < 128
        · rw [decode_ascii ⟨l.toArray⟩ p hsz (by rw [hby]; exact hlt), hby]
          refine ⟨?_, by simp only; omega, h127, by simp only; omega⟩
          unfold signN
          rw [if_neg hLne, if_pos (by rw [hL0]; exact hlt)]
        · have hw := sign_width (l.drop p) (by rw [hL0]; omega) hnz
          rw [hdl] at hw
          have hh := (decode_high ⟨l.toArray⟩ p hsz (by rw [hby]; omega)).1
          refine ⟨hw, by omega, by omega, fun ⟨_, e⟩ => ?_⟩
          have hz : signN (l.drop p) = 1 := by rw [← hw]; exact e
          unfold signN at hz
          rw [if_neg hLne, if_neg (by rw [hL0]; exact hlt)] at hz
          repeat' split at hz
          all_goals omega
      obtain ⟨hw, h1, h2, h3⟩ := hwr
      rw [bcF (b := decide (((Utf8.decode ⟨l.toArray⟩ p).1 : Int) < 32)) (decide_eq_false (by omega)), bcF (b := (((Utf8.decode ⟨l.toArray⟩ p).1 : Int) == 127)) (beq_eq_false_iff_ne.2 (by omega)), hw]
      have ih := text_of l n (p + signN (l.drop p)) (by omega) h
      refine ⟨ih.1, ?_⟩
      rw [Lib.validD_step _ hLne, hdl, if_neg h3, hw, List.drop_drop]
      exact ih.2
    · rw [bcF (b := decide (p < l.length)) (decide_eq_false hp)]
      exact ⟨rfl, by rw [List.drop_of_length_le (by omega)]; rfl⟩

end Go.Proofs.YtdomenmfkbfakaaGreatDoor

/- Law 3: the texts of the law are right; plain values of raw numbers. -/
set_option linter.unusedVariables false
set_option linter.unusedSimpArgs false
namespace Go.Proofs.YtdomenmfkbfakaaGreatDoor
open Go Sx
/-- So many bytes decide of the first sign. -/
theorem getD_app {A t : List UInt8} {i : Nat} (h : i < A.length) : (A ++ t).getD i 0 = A.getD i 0 := by
  simp [List.getD_eq_getElem?_getD, List.getElem?_append_left h]
theorem getD_tk {L : List UInt8} {k i : Nat} (h : i < k) : (L.take k).getD i 0 = L.getD i 0 := by
  simp [List.getD_eq_getElem?_getD, List.getElem?_take, h]
theorem sign_app (L t : List UInt8) (h : signN L ≠ 0) : signN (L.take (signN L) ++ t) = signN L := by
  have hle := signN_le L
  have hz := sizeN_cases (L.getD 0 0).toNat
  have hlen : (L.take (signN L)).length = signN L := by rw [List.length_take]; omega
  have hg : ∀ i, i < signN L → (L.take (signN L) ++ t).getD i 0 = L.getD i 0 := fun i hi => by rw [getD_app (by omega), getD_tk hi]
  have hne : L.take (signN L) ++ t ≠ [] := fun e => by have := congrArg List.length e; rw [List.length_append, hlen] at this; simp at this; omega
  have hl2 : signN L ≤ (L.take (signN L) ++ t).length := by rw [List.length_append, hlen]; omega
  have g0 := hg 0 (by omega)
  generalize L.take (signN L) ++ t = M at *
  unfold signN at h hg hl2 hle ⊢
  rw [if_neg hne, g0]
  have hnL : L ≠ [] := fun e => h (by rw [if_pos e])
  rw [if_neg hnL] at h hg hl2 hle ⊢
  by_cases c1 : (L.getD 0 0).toNat < 128
  · rw [if_pos c1, if_pos c1]
  rw [if_neg c1] at h hg hl2 hle ⊢
  rw [if_neg c1]
  by_cases c2 : sizeN (L.getD 0 0).toNat = 0
  · rw [if_pos c2] at h; exact absurd rfl h
  rw [if_neg c2] at h hg hl2 hle ⊢
  rw [if_neg c2]
  by_cases c3 : L.length < sizeN (L.getD 0 0).toNat
  · rw [if_pos c3] at h; exact absurd rfl h
  rw [if_neg c3] at h hg hl2 hle ⊢
  by_cases c4 : (L.getD 1 0).toNat < loN (L.getD 0 0).toNat ∨ hiN (L.getD 0 0).toNat < (L.getD 1 0).toNat
  · rw [if_pos c4] at h; exact absurd rfl h
  rw [if_neg c4] at h hg hl2 hle ⊢
  by_cases c5 : sizeN (L.getD 0 0).toNat = 2
  · rw [if_pos c5] at h hg hl2 hle ⊢
    rw [if_neg (by omega), hg 1 (by omega), if_neg c4, if_pos c5]
  rw [if_neg c5] at h hg hl2 hle ⊢
  by_cases c6 : (L.getD 2 0).toNat < 128 ∨ 191 < (L.getD 2 0).toNat
  · rw [if_pos c6] at h; exact absurd rfl h
  rw [if_neg c6] at h hg hl2 hle ⊢
  by_cases c7 : sizeN (L.getD 0 0).toNat = 3
  · rw [if_pos c7] at h hg hl2 hle ⊢
    rw [if_neg (by omega), hg 1 (by omega), if_neg c4, if_neg c5, hg 2 (by omega), if_neg c6, if_pos c7]
  rw [if_neg c7] at h hg hl2 hle ⊢
  by_cases c8 : (L.getD 3 0).toNat < 128 ∨ 191 < (L.getD 3 0).toNat
  · rw [if_pos c8] at h; exact absurd rfl h
  rw [if_neg c8] at h hg hl2 hle ⊢
  rw [if_neg (by omega), hg 1 (by omega), if_neg c4, if_neg c5, hg 2 (by omega), if_neg c6, if_neg c7, hg 3 (by omega), if_neg c8]
/-- A sequence of signs that a text has. -/
inductive Sg : List UInt8 → Prop
  | nil : Sg []
  | cons {L t : List UInt8} (h : signN L ≠ 0) (h1 : ¬(L.getD 0 0).toNat < 32) (h2 : (L.getD 0 0).toNat ≠ 127) (ht : Sg t) : Sg (L.take (signN L) ++ t)
theorem Sg.snoc {o L : List UInt8} (ho : Sg o) (h : signN L ≠ 0) (h1 : ¬(L.getD 0 0).toNat < 32) (h2 : (L.getD 0 0).toNat ≠ 127) : Sg (o ++ L.take (signN L)) := by
  induction ho with
  | nil => have := Sg.cons h h1 h2 .nil; rwa [List.append_nil] at this
  | cons a b c _ ih => rw [List.append_assoc]; exact .cons a b c ih
theorem drop_getD0 (l : List UInt8) (p : Nat) : (l.drop p).getD 0 0 = l.getD p 0 := by simp [List.getD_eq_getElem?_getD]
theorem Sg.txt {l : List UInt8} : ∀ (n p : Nat), Sg (l.drop p) → txtB l n p = true
  | 0, p, _ => rfl
  | n + 1, p, h => by
    unfold txtB
    by_cases hp : p < l.length
    · generalize hd : l.drop p = D at h
      cases h with
      | nil => have := congrArg List.length hd; rw [List.length_drop] at this; simp at this; omega
      | @cons L t a b c ht =>
        have e0 : l.getD p 0 = L.getD 0 0 := by
          rw [← drop_getD0, hd, getD_app (by rw [List.length_take]; have := signN_le L; omega), getD_tk (by omega)]
        have es : signN (l.drop p) = signN L := by rw [hd]; exact sign_app L t a
        rw [bcT (decide_eq_true hp), sign_app L t a, bcF (beq_eq_false_iff_ne.2 a), e0, bcF (decide_eq_false b), bcF (beq_eq_false_iff_ne.2 c)]
        refine Sg.txt n _ ?_
        have : l.drop (p + signN L) = t := by
          rw [← List.drop_drop, hd, List.drop_append_of_le_length (by rw [List.length_take]; have := signN_le L; omega), List.drop_take, Nat.sub_self, List.take_zero, List.nil_append]
        rw [this]; exact ht
    · rw [bcF (decide_eq_false hp)]
theorem txS_ok {s : List UInt8} : ∀ (n p : Nat) (o : List UInt8), Sg o → o.length ≤ 40 → Sg (txS s n p o) ∧ (txS s n p o).length ≤ 40
  | 0, p, o, h1, h2 => ⟨h1, h2⟩
  | n + 1, p, o, h1, h2 => by
    unfold txS
    by_cases hc : p < s.length ∧ o.length < 37
    · rw [bcT (decide_eq_true hc)]
      cases hb : badT s p with
      | true => exact txS_ok n _ o h1 h2
      | false =>
        unfold badT at hb
        simp only [Bool.or_eq_false_iff, beq_eq_false_iff_ne, decide_eq_false_iff_not] at hb
        refine txS_ok n _ _ (h1.snoc hb.1 (by rw [drop_getD0]; exact hb.2.1) (by rw [drop_getD0]; exact hb.2.2)) ?_
        have : signN (s.drop p) ≤ 4 := by
          unfold signN; repeat' split
          all_goals omega
        rw [List.length_append, List.length_take]; omega
    · rw [bcF (decide_eq_false hc)]; exact ⟨h1, h2⟩
theorem Sg.text {l : List UInt8} (h : Sg l) : textB l = true := by
  have h1 := Sg.txt (l := l) l.length 0 h
  obtain ⟨k1, k2⟩ := text_of l l.length 0 (by omega) h1
  unfold textB; rw [k1]; exact k2
theorem textL_ok (s : List UInt8) : textB (textL s) = true ∧ (textL s).length ≤ 40 := by
  have := txS_ok (s := s) s.length 0 [] .nil (by simp)
  exact ⟨this.1.text, this.2⟩
/-- The program's own test. -/
def isTx (l : List UInt8) : Bool := decide (l.length ≤ 200) && textB l
theorem isT_comes (l : List UInt8) : Comes tab5 nolv 51 [.str l] [] (.br (decide ((l.length : Int) ≤ 200)) (.chk (decide (l.length ≤ 9223372036854775807)) (.ret (.bool (textB l)) [])) (.ret (.bool false) [])) := by unfold Comes; kernel_rfl
theorem eIsT_ok : EntOK Tryz.prog 51 (eIsT isTx) := fun args pre => by
  unfold eIsT
  split
  · rename_i l
    refine ⟨fun g => ?_, fun _ => trivial⟩
    refine of_run (x := .br _ _ _) (y := .ret _ _) (ans_comes tab5_ok (isT_comes l)) fun r hr => ?_
    rw [← hr]; unfold isTx
    have := of_decide_eq_true g
    by_cases h : l.length ≤ 200
    · rw [brT (decide_eq_true (by omega)), chkT (decide_eq_true (by omega)), decide_eq_true h, Bool.true_and]
    · rw [brF (decide_eq_false (by omega)), decide_eq_false h, Bool.false_and]
  · trivial
end Go.Proofs.YtdomenmfkbfakaaGreatDoor

/- Law 3: plain values of raw numbers, that are right. -/
set_option linter.unusedVariables false
set_option linter.unusedSimpArgs false
namespace Go.Proofs.YtdomenmfkbfakaaGreatDoor
open Go Sx
abbrev I3 := Int × Int × Int
def eOfF (fo : Int → I3) : Ent := fun args pre => match args, pre with
  | [.int .i64 a], [] => .chk (inI a) (.ret (R3 (fo a)) [])
  | _, _ => .fail
theorem eOfF_ok : EntOK Tryz.prog 35 (eOfF ofR) := fun args pre => by
  unfold eOfF
  split
  · exact ⟨fun g => of_meets _ g, fun _ => trivial⟩
  · trivial
def eDivF (fd : Int → Int → Int → Int → I3) : Ent := fun args pre => match args, pre with
  | [.agg [.int .i64 a, .int .i64 b], .agg [.int .i64 c, .int .i64 d]], [] => .chk (Dq.rightB a b) (.chk (Dq.rightB c d) (.chk (c != 0) (.ret (R3 (fd a b c d)) [])))
  | _, _ => .fail
def divR (a b c d : Int) : I3 := nrR (decide (a < 0) != decide (c < 0)) (wN a b) (wN c d)
theorem eDivF_ok : EntOK Tryz.prog 36 (eDivF divR) := fun args pre => by
  unfold eDivF
  split
  · exact ⟨fun g1 => ⟨fun g2 => ⟨fun g3 => div_meets _ _ _ _ g1 g2 (bne_iff_ne.1 g3), fun _ => trivial⟩, fun _ => trivial⟩, fun _ => trivial⟩
  · trivial
def tVl (fo : Int → I3) (fd : Int → Int → Int → Int → I3) (tf : List UInt8 → List UInt8) : Tab := [(24, ePick), (35, eOfF fo), (36, eDivF fd), (32, eTx tf)]
theorem tVl_ok : TabOK Tryz.prog (tVl ofR divR textL) := .cons ePick_ok (.cons eOfF_ok (.cons eDivF_ok (.cons eTx_ok .nil)))
def rowT (x : List CV) : Ans := .ret (vR x) []
def vlT (r1 r2 : I3) (c1 c2 : Bool) (t : List UInt8) (k m e : Int) (s : List UInt8) (b : Bool) : Ans :=
  .chk (inI k) (.br (pickS k 5 == 1) (.chk (inI m) (.chk (inI (w64 (pickS m 2000001 - 1000000))) (.chk (inI e) (.chk c1 (.chk c2 (.br (r1.2.2 == 0) (.br (r2.2.2 == 0) (rowT (mkR 1 r2.1 r2.2.1 [] false 0 0 0 0)) (rowT (mkR 1 0 0 [] false 0 0 0 0))) (rowT (mkR 1 0 0 [] false 0 0 0 0))))))))
    (.br (pickS k 5 == 2) (.chk (decide (s.length ≤ 9223372036854775807)) (rowT (mkR 2 0 0 t false 0 0 0 0))) (.br (pickS k 5 == 3) (rowT (mkR 3 0 0 [] b 0 0 0 0)) (.br (pickS k 5 == 4) (.chk (inI m) (rowT (mkR 4 0 0 [] false (w64 (1 + pickS m 9)) 0 0 0))) (rowT (mkR 0 0 0 [] false 0 0 0 0))))))
theorem vl_comes (fo : Int → I3) (fd : Int → Int → Int → Int → I3) (tf : List UInt8 → List UInt8) (k m e : Int) (s : List UInt8) (b : Bool) : Comes (tVl fo fd tf) nolv 12 [.agg [.int .i64 k, .int .i64 m, .int .i64 e, .str s, .bool b]] []
  (vlT (fo (w64 (pickS m 2000001 - 1000000))) (fd (fo (w64 (pickS m 2000001 - 1000000))).1 (fo (w64 (pickS m 2000001 - 1000000))).2.1 1 (pickS e 5)) (Dq.rightB (fo (w64 (pickS m 2000001 - 1000000))).1 (fo (w64 (pickS m 2000001 - 1000000))).2.1) (Dq.rightB 1 (pickS e 5)) (tf s) k m e s b) := by unfold Comes; kernel_rfl
def valF (r1 r2 : I3) (t : List UInt8) (k m : Int) (b : Bool) : List CV :=
  bcond (k == 1) (bcond (r1.2.2 == 0) (bcond (r2.2.2 == 0) (mkR 1 r2.1 r2.2.1 [] false 0 0 0 0) (mkR 1 0 0 [] false 0 0 0 0)) (mkR 1 0 0 [] false 0 0 0 0))
    (bcond (k == 2) (mkR 2 0 0 t false 0 0 0 0) (bcond (k == 3) (mkR 3 0 0 [] b 0 0 0 0) (bcond (k == 4) (mkR 4 0 0 [] false (1 + m) 0 0 0) (mkR 0 0 0 [] false 0 0 0 0))))
def numO (m : Int) : I3 := ofR (pickS m 2000001 - 1000000)
def numD (m e : Int) : I3 := divR (numO m).1 (numO m).2.1 1 (pickS e 5)
/-- The value of raw numbers, as a row. -/
def valR (k m e : Int) (s : List UInt8) (b : Bool) : List CV := valF (numO m) (numD m e) (textL s) (pickS k 5) (pickS m 9) b
def eVal (f : Int → Int → Int → List UInt8 → Bool → List CV) : Ent := fun args pre => match args, pre with
  | [.agg [.int .i64 k, .int .i64 m, .int .i64 e, .str s, .bool b]], [] => .chk (inI k) (.chk (inI m) (.chk (inI e) (.chk (decide (s.length ≤ 9223372036854775807)) (.ret (vR (f k m e s b)) []))))
  | _, _ => .fail
theorem one_right {x : Int} (h : 0 ≤ x ∧ x < 5) : Dq.rightB 1 x = true := by
  have : x = 0 ∨ x = 1 ∨ x = 2 ∨ x = 3 ∨ x = 4 := by omega
  rcases this with rfl | rfl | rfl | rfl | rfl <;> rfl
theorem numO_right (m : Int) : Dq.rightB (numO m).1 (numO m).2.1 = true := ofV_right _ _ (nrR_right _ _ _)
theorem numD_right (m e : Int) (h : (numD m e).2.2 = 0) : Dq.rightB (numD m e).1 (numD m e).2.1 = true := nrR_right _ _ _ h
theorem vlT_run {r1 r2 : I3} {c1 c2 : Bool} {t : List UInt8} {k m e : Int} {s : List UInt8} {b : Bool} (hk : inI k = true) (hm : inI m = true) (he : inI e = true) (hs : s.length ≤ 9223372036854775807) (h1 : c1 = true) (h2 : c2 = true) : (vlT r1 r2 c1 c2 t k m e s b).run pure2 = pure2 (vR (valF r1 r2 t (pickS k 5) (pickS m 9) b)) [] := by
  have b1 := pickS_bd (a := m) (n := 2000001) (by decide)
  have b2 := pickS_bd (a := m) (n := 9) (by decide)
  unfold vlT valF
  rw [chkT hk]
  cases q1 : pickS k 5 == 1 with
  | true =>
    rw [brT rfl, chkT hm, chkT (by rw [w64_of (inI_iff.2 ⟨by omega, by omega⟩)]; exact inI_iff.2 ⟨by omega, by omega⟩), chkT he, chkT h1, chkT h2]
    cases r1.2.2 == 0 <;> cases r2.2.2 == 0 <;> rfl
  | false =>
    rw [brF rfl]
    cases q2 : pickS k 5 == 2 with
    | true => rw [brT rfl, chkT (decide_eq_true hs)]; rfl
    | false =>
      rw [brF rfl]
      cases q3 : pickS k 5 == 3 with
      | true => rw [brT rfl]; rfl
      | false =>
        rw [brF rfl]
        cases q4 : pickS k 5 == 4 with
        | true => rw [brT rfl, chkT hm, w64_of (inI_iff.2 ⟨by omega, by omega⟩)]; rfl
        | false => rw [brF rfl]; rfl
theorem eVal_ok : EntOK Tryz.prog 12 (eVal valR) := fun args pre => by
  unfold eVal
  split
  · rename_i k m e s b
    refine ⟨fun g1 => ⟨fun g2 => ⟨fun g3 => ⟨fun g4 => ?_, fun _ => trivial⟩, fun _ => trivial⟩, fun _ => trivial⟩, fun _ => trivial⟩
    have b1 := pickS_bd (a := m) (n := 2000001) (by decide)
    have hw : w64 (pickS m 2000001 - 1000000) = pickS m 2000001 - 1000000 := w64_of (inI_iff.2 ⟨by omega, by omega⟩)
    have key := vl_comes ofR divR textL k m e s b
    rw [hw] at key
    exact meets_ent (pre := []) (post := []) tVl_ok host (key.trans (vlT_run g1 g2 g3 (of_decide_eq_true g4) (numO_right m) (one_right (pickS_bd (by decide))))) nolv_ok
  · trivial
theorem valF_ok {r1 r2 : I3} {t : List UInt8} {k m : Int} {b : Bool} (h2 : r2.2.2 = 0 → Dq.rightB r2.1 r2.2.1 = true) (ht : isTx t = true) (hl : t.length ≤ 40) (hm : 0 ≤ m ∧ m < 9) : plR (valF r1 r2 t k m b) = true ∧ rigR isTx (valF r1 r2 t k m b) = true := by
  unfold valF
  cases k == 1 with
  | true =>
    cases r1.2.2 == 0 with
    | false => exact ⟨by kernel_rfl, by kernel_rfl⟩
    | true => cases q : r2.2.2 == 0 with
      | false => exact ⟨by kernel_rfl, by kernel_rfl⟩
      | true =>
        refine ⟨rfl, ?_⟩
        show (Dq.rightB r2.1 r2.2.1 && zF 0 0 [] false 0 0 0 0) = true
        rw [h2 (beq_iff_eq.1 q)]; rfl
  | false => cases k == 2 with
    | true =>
      refine ⟨?_, ?_⟩
      · show (true && decide (t.length ≤ 1000000)) = true
        rw [decide_eq_true (by omega)]; rfl
      · show (isTx t && zF 0 0 [] false 0 0 0 0) = true
        rw [ht]; rfl
    | false => cases k == 3 with
      | true => exact ⟨rfl, rfl⟩
      | false => cases k == 4 with
        | true =>
          refine ⟨rfl, ?_⟩
          show (decide (1 ≤ 1 + m ∧ 1 + m ≤ 9) && zF 0 0 [] false 0 0 0 0) = true
          rw [decide_eq_true ⟨by omega, by omega⟩]; rfl
        | false => exact ⟨rfl, rfl⟩
theorem valR_ok (k m e : Int) (s : List UInt8) (b : Bool) : plR (valR k m e s b) = true ∧ rigR isTx (valR k m e s b) = true :=
  valF_ok (numD_right m e) (by unfold isTx; rw [(textL_ok s).1, decide_eq_true (by have := (textL_ok s).2; omega)]; rfl) (textL_ok s).2 (pickS_bd (by decide))
end Go.Proofs.YtdomenmfkbfakaaGreatDoor

/- Law 3: arrays of raw numbers. -/
set_option linter.unusedVariables false
set_option linter.unusedSimpArgs false
namespace Go.Proofs.YtdomenmfkbfakaaGreatDoor
open Go Sx
/-- The cells of raw numbers: kind, number, text, truth. -/
def shW : List CK := [.int .i64, .int .i64, .int .i64, .str, .bool]
abbrev fW (R : List (List CV)) : PObj := .raw (.flatR false shW R)
abbrev FV := Int → Int → Int → List UInt8 → Bool → List CV
abbrev rvF (f : FV) (x : List CV) : List CV := f (rowCV x 0).n (rowCV x 1).n (rowCV x 2).n (rowCV x 3).s (rowCV x 4).b
def zR : List CV := mkR 0 0 0 [] false 0 0 0 0
/-- Raw numbers that a program can hold. -/
def okC (x : List CV) : List Bool := [inI (rowCV x 0).n, inI (rowCV x 1).n, inI (rowCV x 2).n, decide ((rowCV x 3).s.length ≤ 9223372036854775807)]
section
variable (f : FV) (H W : Int) (a : Nat) (R : List (List CV))
def sA (l : AV) (t : List (Option PObj)) (i : Int) : PState := ⟨none :: none :: some (.dsl 0 a) :: none :: none :: none :: some (.ptr 1 0) :: some (.ptr 2 0) :: some (.int .i64 i) :: nn 39, some (fW R) :: some (vCells 0 0 0 [] false 0 0 0 0 .nilslice) :: some (vCells 5 0 0 [] false 0 H W 0 l) :: (t ++ nn 64)⟩
def sAX (l : AV) (t : List (Option PObj)) : PState := ⟨nn 6 ++ some (.ptr 1 0) :: some (.ptr 2 0) :: nn 40, some (fW R) :: some (vCells 0 0 0 [] false 0 0 0 0 .nilslice) :: some (vCells 5 0 0 [] false 0 H W 0 l) :: (t ++ nn 64)⟩
noncomputable abbrev loopA1 : Code := (loopBodies (bodyOf Tryz.f13)).headD .skip
def tAr : Tab := [(24, ePick), (12, eVal f)]
def rI (i : Int) : Int := Int.tmod i a
theorem rA0 : code (ent Tryz.prog (tAr f) nolv 64 1 20) Tryz.prog {} 1 64 1 loopA1 (sA H W a R .nilslice [] 0) (endK 1 64 (fun n => hasN [2, 6, 7, 8] n) (fun n => hasN [6, 7] n))
  = bcond (decide (0 < w64 (H * W))) (bcond ((a : Int) == 0) (some (.normal, sA H W a R (.vec 3 1) [some (vR34 [zR])] 1))
      (chks (chks (some (.normal, sA H W a R (.vec 3 1) [some (vR34 [nrm (rvF f (Sx.rowAt R (rI a 0).toNat))])] 1)) (okC (Sx.rowAt R (rI a 0).toNat))) [(a : Int) != 0, ixN (rI a 0) a, inR (rI a 0) R])) (some (.exit 0, sAX H W R .nilslice [])) := by kernel_rfl
theorem rA1 (n : Nat) (L : List (List CV)) (i : Int) : code (ent Tryz.prog (tAr f) nolv 64 1 20) Tryz.prog {} 1 64 1 loopA1 (sA H W a R (.vec 3 n) [some (vR34 L)] i) (endK 1 64 (fun n => hasN [2, 6, 7, 8] n) (fun n => hasN [6, 7] n))
  = bcond (decide (i < w64 (H * W))) (bcond ((a : Int) == 0) (chks (some (.normal, sA H W a R (.vec 3 (n + 1)) [some (vR34 (L ++ [zR]))] (up1 i))) [bV n L])
      (chks (chks (chks (some (.normal, sA H W a R (.vec 3 (n + 1)) [some (vR34 (L ++ [nrm (rvF f (Sx.rowAt R (rI a i).toNat))]))] (up1 i))) [bV n L]) (okC (Sx.rowAt R (rI a i).toNat))) [(a : Int) != 0, ixN (rI a i) a, inR (rI a i) R])) (some (.exit 0, sAX H W R (.vec 3 n) [some (vR34 L)])) := by kernel_rfl
def outA (N : Nat) (c : Bool) (L : List (List CV)) : LAns := .chk c (.out (.exit 0) (sAX H W R (.vec 3 N) [some (vR34 L)]))
noncomputable def lvA (N : Nat) (c : Bool) (L : List (List CV)) : FuncId → Lv := lvOf 13 (fun _ => some [2, 6, 7, 8]) (oneL 3 (eAt 1 (sA H W a R .nilslice [] 0) (outA H W R N c L)))
theorem ar_comes (h w : Int) (N : Nat) (c : Bool) (L : List (List CV)) : Comes [(24, ePick)] (lvA (w64 (1 + pickS h 5)) (w64 (1 + pickS w 5)) a R N c L) 13 [.int .i64 h, .int .i64 w, .dsl 0 a] [fW R]
  (.chk (inI h) (.chk (inI w) (.chk (eqSt (sA (w64 (1 + pickS h 5)) (w64 (1 + pickS w 5)) a R .nilslice [] 0) (sA (w64 (1 + pickS h 5)) (w64 (1 + pickS w 5)) a R .nilslice [] 0)) (.chk c (.ret (vL 5 0 0 [] false 0 (w64 (1 + pickS h 5)) (w64 (1 + pickS w 5)) (.vec 1 N) 0) [fW R, vR34 L]))))) := by unfold Comes; kernel_rfl
end
/-- The row of an array at a place, and so many of them. -/
def arJ (f : FV) (a : Nat) (R : List (List CV)) (i : Nat) : List CV := bcond (Nat.beq a 0) zR (nrm (rvF f (Sx.rowAt R (i % a))))
def arL (f : FV) (a : Nat) (R : List (List CV)) (n : Nat) : List (List CV) := (List.range n).map (arJ f a R)
theorem arL_succ (f : FV) (a : Nat) (R : List (List CV)) (n : Nat) : arL f a R n ++ [arJ f a R n] = arL f a R (n + 1) := by unfold arL; rw [List.range_succ, List.map_append]; rfl
theorem arL_len (f : FV) (a : Nat) (R : List (List CV)) (n : Nat) : (arL f a R n).length = n := by simp [arL]
theorem arL_at {f : FV} {a : Nat} {R : List (List CV)} {n i : Nat} (h : i < n) : Sx.rowAt (arL f a R n) i = arJ f a R i := by simp [arL, Sx.rowAt, h]
def okW (a : Nat) (R : List (List CV)) : Prop := a ≤ R.length ∧ a < 9223372036854775808 ∧ ∀ i, i < a → ∀ c ∈ okC (Sx.rowAt R i), c = true
section
variable {f : FV} {H W : Int} {a N : Nat} {R : List (List CV)}
def sAj (f : FV) (H W : Int) (a : Nat) (R : List (List CV)) : Nat → PState
  | 0 => sA H W a R .nilslice [] 0
  | n + 1 => sA H W a R (.vec 3 (n + 1)) [some (vR34 (arL f a R (n + 1)))] ((n + 1 : Nat) : Int)
theorem rI_nat (j : Nat) : rI a (j : Int) = ((j % a : Nat) : Int) := rfl
theorem roundA (hR : okW a R) (hN : w64 (H * W) = (N : Int)) (h1 : N ≤ 1000) (j : Nat) (hj : j < N) : code (ent Tryz.prog (tAr f) nolv 64 1 20) Tryz.prog {} 1 64 1 loopA1 (sAj f H W a R j) (endK 1 64 (fun n => hasN [2, 6, 7, 8] n) (fun n => hasN [6, 7] n)) = some (.normal, sAj f H W a R (j + 1)) := by
  obtain ⟨hl, hs, hc⟩ := hR
  have hb : ∀ n, n ≤ 1000 → bV n (arL f a R n) = true := fun n hn => by unfold bV roomB; rw [arL_len]; simp; omega
  have h3 : ∀ j : Nat, 0 < a → ∀ x ∈ [(a : Int) != 0, ixN (rI a j) a, inR (rI a j) R], x = true := fun j h0 => by
    have := Nat.mod_lt j h0
    rw [rI_nat]
    exact all3' (bne_iff_ne.2 (by omega)) (ixN_nat this) (inR_nat (by omega))
  by_cases h0 : a = 0
  · subst h0
    have z0 : (((0 : Nat) : Int) == 0) = true := rfl
    cases j with
    | zero =>
      rw [sAj, rA0, hN, bcT (decide_eq_true (by omega)), bcT z0]; rfl
    | succ j =>
      rw [sAj, rA1, hN, bcT (decide_eq_true (by omega)), bcT z0, chks_true (by simpa using hb (j + 1) (by omega)), up1_nat (by omega)]
      rw [show zR = arJ f 0 R (j + 1) from rfl, arL_succ]; rfl
  · have ha : 0 < a := by omega
    have eJ : ∀ i, nrm (rvF f (Sx.rowAt R (i % a))) = arJ f a R i := fun i => by unfold arJ; rw [show Nat.beq a 0 = false from Bool.eq_false_iff.2 fun e => h0 (beqT.1 e)]; rfl
    cases j with
    | zero =>
      have h3' := h3 0 ha
      rw [sAj, rA0, hN, bcT (decide_eq_true (by omega)), bcF (beq_eq_false_iff_ne.2 (by omega))]
      rw [show rI a ((0 : Nat) : Int) = ((0 % a : Nat) : Int) from rfl] at h3'
      rw [show rI a 0 = ((0 % a : Nat) : Int) from rfl, chks_true h3', Int.toNat_natCast, chks_true (hc _ (Nat.mod_lt _ ha)), eJ 0]; rfl
    | succ j =>
      rw [sAj, rA1, hN, bcT (decide_eq_true (by omega)), bcF (beq_eq_false_iff_ne.2 (by omega)), chks_true (h3 (j + 1) ha), rI_nat, Int.toNat_natCast, chks_true (hc _ (Nat.mod_lt _ ha)), chks_true (by simpa using hb (j + 1) (by omega)), up1_nat (by omega), eJ (j + 1), arL_succ]; rfl
theorem loopA (hf : EntOK Tryz.prog 12 (eVal f)) (hR : okW a R) (hN : w64 (H * W) = (N : Int)) (h1 : 1 ≤ N ∧ N ≤ 1000) : Tri Tryz.prog (.loop loopA1) (sA H W a R .nilslice [] 0).toA (.exit 0) (sAX H W R (.vec 3 N) [some (vR34 (arL f a R N))]).toA 1 := by
  have key := loop_rounds (ent_sound (T := tAr f) (.cons ePick_ok (.cons hf .nil)) host nolv_ok (NF := 64) (m := 1) 20) (NF := 64) (m := 1) (x := loopA1) (K := 1) loops_none (fun n => hasN [2, 6, 7, 8] n) (fun n => hasN [6, 7] n) (ι := { j : Nat // j ≤ N }) (fun j => sAj f H W a R j.1) (fun j => N - j.1) (fun j => (.exit 0, sAX H W R (.vec 3 N) [some (vR34 (arL f a R N))])) ?_ (fun j => by simp) ⟨0, Nat.zero_le _⟩
  · exact key
  rintro ⟨j, hj⟩
  simp only
  by_cases hl : j < N
  · exact .inl ⟨⟨j + 1, hl⟩, by simp only; omega, trivial, roundA hR hN h1.2 j hl⟩
  · obtain rfl : j = N := by omega
    cases j with
    | zero => omega
    | succ j =>
      right
      rw [sAj, rA1, hN, bcF (decide_eq_false (by omega))]
end
/-- How many rows, or columns, are asked for. -/
abbrev sz5 (h : Int) : Int := 1 + pickS h 5
def nA (h w : Int) : Nat := (sz5 h * sz5 w).toNat
open Classical in
noncomputable def eArr (f : FV) : Ent := fun args pre => match args, pre with
  | [.int .i64 h, .int .i64 w, .dsl j a], [.raw (.flatR m sh R)] => .chk (Nat.beq j 0 && shEq sh shW && !m) (.chk (inI h) (.chk (inI w) (.chk (decide (okW a R)) (.ret (vL 5 0 0 [] false 0 (sz5 h) (sz5 w) (.vec 1 (nA h w)) 0) [.raw (.flatR m sh R), vR34 (arL f a R (nA h w))]))))
  | _, _ => .fail
theorem nA_bd (h w : Int) : ((nA h w : Nat) : Int) = sz5 h * sz5 w ∧ 1 ≤ nA h w ∧ nA h w ≤ 25 := by
  have h1 := pickS_bd (a := h) (n := 5) (by decide)
  have h2 := pickS_bd (a := w) (n := 5) (by decide)
  have a1 : 1 ≤ sz5 h * sz5 w := Int.mul_pos (a := sz5 h) (by unfold sz5; omega) (by unfold sz5; omega)
  have a2 : sz5 h * sz5 w ≤ 5 * 5 := Int.mul_le_mul (by unfold sz5; omega) (by unfold sz5; omega) (by unfold sz5; omega) (by omega)
  unfold nA
  omega
open Classical in
theorem eArr_ok {f : FV} (hf : EntOK Tryz.prog 12 (eVal f)) : EntOK Tryz.prog 13 (eArr f) := fun args pre => by
  unfold eArr
  split
  · rename_i h w j a m sh R
    refine ⟨fun g0 => ⟨fun g1 => ⟨fun g2 => ⟨fun g3 => ?_, fun _ => trivial⟩, fun _ => trivial⟩, fun _ => trivial⟩, fun _ => trivial⟩
    rw [Bool.and_eq_true, Bool.and_eq_true, beqT] at g0
    obtain ⟨⟨rfl, g⟩, gm⟩ := g0
    obtain rfl := shEq_of g
    cases m with
    | true => cases gm
    | false =>
    have g3 := of_decide_eq_true g3
    obtain ⟨n1, n2, n3⟩ := nA_bd h w
    have h1 := pickS_bd (a := h) (n := 5) (by decide)
    have h2 := pickS_bd (a := w) (n := 5) (by decide)
    have e1 : w64 (1 + pickS h 5) = sz5 h := w64_of (inI_iff.2 ⟨by omega, by omega⟩)
    have e2 : w64 (1 + pickS w 5) = sz5 w := w64_of (inI_iff.2 ⟨by omega, by omega⟩)
    have key := ar_comes a R h w (nA h w) true (arL f a R (nA h w))
    rw [e1, e2] at key
    refine meets_ent (T := [(24, ePick)]) (pre := [fW R]) (post := [fW R, vR34 (arL f a R (nA h w))]) (.cons ePick_ok .nil) host (key.trans (by rw [chkT g1, chkT g2, chkT (eqSt_refl _), chkT rfl]; rfl)) (lvOne_ok (x := loopA1) Tryz.func13 (by kernel_rfl) fun K t => eAt_ok (a := outA (sz5 h) (sz5 w) R (nA h w) true (arL f a R (nA h w))) ⟨fun _ => loopA hf g3 (by rw [w64_of (inI_iff.2 ⟨by omega, by omega⟩), n1]) ⟨n2, by omega⟩, fun _ => trivial⟩ K t)
  · trivial
end Go.Proofs.YtdomenmfkbfakaaGreatDoor

/- Law 3: what is made of an array (ValMade): the rounds. -/
set_option linter.unusedVariables false
set_option linter.unusedSimpArgs false
namespace Go.Proofs.YtdomenmfkbfakaaGreatDoor
open Go Sx
section
variable (tx : List UInt8 → Bool) (H W n : Int) (N : Nat) (R L M : List (List CV))
end
end Go.Proofs.YtdomenmfkbfakaaGreatDoor

/- Law 3: what is made of an array (ValMade): the law. -/
set_option linter.unusedVariables false
set_option linter.unusedSimpArgs false
namespace Go.Proofs.YtdomenmfkbfakaaGreatDoor
open Go Sx
section
variable (tx : List UInt8 → Bool) (H W n : Int) (N : Nat) (R L M : List (List CV))
def fwB (b : Bool) : Ans := .ret (.bool b) [fW R]
end
end Go.Proofs.YtdomenmfkbfakaaGreatDoor

/- Law 3: what is made of an array (ValMade): it is so. -/
set_option linter.unusedVariables false
set_option linter.unusedSimpArgs false
namespace Go.Proofs.YtdomenmfkbfakaaGreatDoor
open Go Sx
theorem sameF_refl (k m e : Int) (s : List UInt8) (b : Bool) (r h w f : Int) : sameF k m e s b r h w f k m e s b r h w f = true := by unfold sameF; simp
theorem samR_nrm (x : List CV) : samR (nrm x) x = true := sameF_refl ..
theorem eqFrom_of {R S : List (List CV)} : ∀ (n i : Nat), (∀ j, i ≤ j → j < i + n → samR (Sx.rowAt R j) (Sx.rowAt S j) = true) → eqFrom R S n i = true
  | 0, _, _ => rfl
  | n + 1, i, h => by rw [eqFrom, h i (Nat.le_refl _) (by omega), eqFrom_of n (i + 1) fun j h1 h2 => h j (by omega) (by omega)]; rfl
theorem rigFrom_of {tx : List UInt8 → Bool} {R : List (List CV)} : ∀ (n i : Nat), (∀ j, i ≤ j → j < i + n → rigR tx (Sx.rowAt R j) = true) → rigFrom tx R n i = true
  | 0, _, _ => rfl
  | n + 1, i, h => by rw [rigFrom, h i (Nat.le_refl _) (by omega), rigFrom_of n (i + 1) fun j h1 h2 => h j (by omega) (by omega)]; rfl
theorem zR_ok : plR zR = true ∧ rigR isTx zR = true := ⟨by kernel_rfl, by kernel_rfl⟩
theorem arJ_ok (a : Nat) (R : List (List CV)) (i : Nat) : plR (arJ valR a R i) = true ∧ rigR isTx (arJ valR a R i) = true := by
  unfold arJ
  cases Nat.beq a 0 with
  | true => exact zR_ok
  | false => exact valR_ok _ _ _ _ _
section
variable {a : Nat} {R : List (List CV)} {N : Nat}
theorem okRows_ar (hN : N ≤ 25) : okRows N (arL valR a R N) := ⟨by rw [arL_len]; omega, by omega, fun i hi => by rw [arL_at hi]; exact (arJ_ok a R i).1⟩
end
section
variable {H W n : Int} {N : Nat} {R L M : List (List CV)} (h1 : 1 ≤ H ∧ H ≤ 5) (h2 : 1 ≤ W ∧ W ≤ 5) (hN : (N : Int) = H * W) (h25 : N ≤ 25) (h0 : 1 ≤ N) (hL : okRows N L) (hM : okRows N M) (rL : rigFrom isTx L N 0 = true) (rM' : rigFrom isTx M N 0 = true) (hs : ∀ i, i < N → samR (Sx.rowAt M i) (Sx.rowAt L i) = true)
include h1 h2 hN h25 h0 hL hM rL rM' hs
end
end Go.Proofs.YtdomenmfkbfakaaGreatDoor

/- Layer 3: dec.Read and dec.Text as entries; what is told of a plain value as a text. -/
set_option linter.unusedVariables false
set_option linter.unusedSimpArgs false
namespace Go.Proofs.YtdomenmfkbfakaaGreatDoor
open Go Sx
theorem eRdF_ok : EntOK Tryz.prog 44 (eRdF Dq.readR) := fun args pre => by
  unfold eRdF
  split
  · exact ⟨fun g => Dq.read_meets _ (of_decide_eq_true g), fun _ => trivial⟩
  · trivial
section
variable (dt : Int → Int → List UInt8) (k m e : Int) (s : List UInt8) (b : Bool) (r h w f : Int)
def sT4 : List UInt8 := [84, 82, 85, 69]
def sF5 : List UInt8 := [70, 65, 76, 83, 69]
end
def kT (k m e : Int) (s : List UInt8) (b : Bool) (t : List UInt8) : List CV := bcond (k == 1) (txR t) (bcond (k == 2) (txR s) (bcond (k == 3) (txR (bcond b sT4 sF5)) (txR [])))
end Go.Proofs.YtdomenmfkbfakaaGreatDoor

/- Layer 3: what is told of a value that is right is right. -/
set_option linter.unusedVariables false
set_option linter.unusedSimpArgs false
namespace Go.Proofs.YtdomenmfkbfakaaGreatDoor
open Go Sx
theorem nearM_right {ds : List Int} (hd : Dc.Dig ds) (mx : Bool) : Dq.rightB (Dq.nearM mx ds).1 (Dq.nearM mx ds).2 = true := by
  unfold Dq.nearM
  cases h : Dq.nearGo ds 19 0 with
  | none => rfl
  | some p =>
    obtain ⟨N, e⟩ := p
    have hb := Dq.nearGo_bounds hd 19 0 N e rfl h
    have : (if mx = true then -N else N).natAbs = N.natAbs := by split <;> omega
    exact trimmedS_right ⟨hb.2.2.1, hb.2.2.2⟩ (by omega)
theorem readR_right (s : List UInt8) : Dq.rightB (Dq.readR s).1 (Dq.readR s).2.1 = true := by
  unfold Dq.readR
  split
  · split
    · exact nearM_right (Dc.digs_dig 88 (Dq.wrS s)) (Dq.minusB s)
    · rfl
  · rfl
theorem rig_nm {m e : Int} (h : Dq.rightB m e = true) : rigR isTx (nmR m e) = true := by
  show (Dq.rightB m e && zF 0 0 [] false 0 0 0 0) = true
  rw [h]; rfl
theorem rig_tx {s : List UInt8} (h : isTx s = true) : rigR isTx (txR s) = true := by
  show (isTx s && zF 0 0 [] false 0 0 0 0) = true
  rw [h]; rfl
theorem rig_tr (b : Bool) : rigR isTx (trR b) = true := by cases b <;> rfl
theorem rig_err {n : Int} (h : 1 ≤ n ∧ n ≤ 9) : rigR isTx (errR n) = true := by
  show (decide (1 ≤ n ∧ n ≤ 9) && zF 0 0 [] false 0 0 0 0) = true
  rw [decide_eq_true h]; rfl
end Go.Proofs.YtdomenmfkbfakaaGreatDoor

/- Law 3: what is told of an array is told one by one (ValEach): the law's tree. -/
set_option linter.unusedVariables false
set_option linter.unusedSimpArgs false
namespace Go.Proofs.YtdomenmfkbfakaaGreatDoor
open Go Sx
section
variable (tx : List UInt8 → Bool) (H W i j : Int) (N : Nat) (L : List (List CV))
end
end Go.Proofs.YtdomenmfkbfakaaGreatDoor

/- Law 3: what is told of an array is told one by one (ValEach): it is so. -/
set_option linter.unusedVariables false
set_option linter.unusedSimpArgs false
set_option linter.unusedSectionVars false
namespace Go.Proofs.YtdomenmfkbfakaaGreatDoor
open Go Sx
theorem sameF_s {m e : Int} {s : List UInt8} {b : Bool} {r h w f : Int} (c : zF m e s b r h w f = true) : s = [] := by
  unfold zF sameF at c
  simp only [Bool.and_eq_true, beq_iff_eq] at c
  exact c.2.2.2.1
/-- What a plain value that is right is like. -/
theorem rightF_facts {k m e : Int} {s : List UInt8} {b : Bool} {r h w f : Int} (c : rightF isTx k m e s b r h w f = true) : (0 ≤ k ∧ k ≤ 4) ∧ s.length ≤ 200 ∧ (k = 1 → Dq.rightB m e = true) ∧ (k = 2 → isTx s = true) ∧ (k = 4 → 1 ≤ r ∧ r ≤ 9) := by
  unfold rightF at c
  split at c
  · rename_i hk; subst hk
    rw [sameF_s c]
    exact ⟨by decide, by simp, fun h => (by cases h), fun h => (by cases h), fun h => (by cases h)⟩
  split at c
  · rename_i _ hk; subst hk
    rw [Bool.and_eq_true] at c
    rw [sameF_s c.2]
    exact ⟨by decide, by simp, fun _ => c.1, fun h => (by cases h), fun h => (by cases h)⟩
  split at c
  · rename_i _ _ hk; subst hk
    rw [Bool.and_eq_true] at c
    have l := c.1
    unfold isTx at l
    rw [Bool.and_eq_true, decide_eq_true_eq] at l
    exact ⟨by decide, l.1, fun h => (by cases h), fun _ => c.1, fun h => (by cases h)⟩
  split at c
  · rename_i _ _ _ hk; subst hk
    rw [sameF_s c]
    exact ⟨by decide, by simp, fun h => (by cases h), fun h => (by cases h), fun h => (by cases h)⟩
  split at c
  · rename_i _ _ _ _ hk; subst hk
    rw [Bool.and_eq_true, decide_eq_true_eq] at c
    rw [sameF_s c.2]
    exact ⟨by decide, by simp, fun h => (by cases h), fun h => (by cases h), fun _ => c.1⟩
  · cases c
theorem plR_of {x : List CV} (h : rigR isTx x = true) : plR x = true := by
  have := rightF_facts h
  unfold plR
  rw [decide_eq_true this.1, decide_eq_true (show (rs x).length ≤ 1000000 by omega)]; rfl
/-- What is asked of a function that tells of plain values: it takes those that are right, and what it tells is right. -/
def afOk (af : List CV → List CV) (q : List CV → Bool) : Prop := ∀ x, rigR isTx x = true → rk x ≠ 4 → rigR isTx (af x) = true ∧ q x = true
section
variable {af : List CV → List CV} {q : List CV → Bool} (ha : afOk af q)
include ha
variable {H W : Int} {N : Nat} {L : List (List CV)} (h1 : 1 ≤ H ∧ H ≤ 5) (h2 : 1 ≤ W ∧ W ≤ 5) (hN : (N : Int) = H * W) (h25 : N ≤ 25) (hL : okRows N L) (rL : rigFrom isTx L N 0 = true)
include h1 h2 hN h25 hL rL
end
end Go.Proofs.YtdomenmfkbfakaaGreatDoor

/- Law 3: what is told of what is told (ValTwice): the law's tree. -/
set_option linter.unusedVariables false
set_option linter.unusedSimpArgs false
namespace Go.Proofs.YtdomenmfkbfakaaGreatDoor
open Go Sx
/-- Are two values the same? They are. -/
def eSamC : Ent := fun args pre => match args, pre with
  | [.agg [.int .i64 k, .int .i64 m, .int .i64 e, .str s, .bool b, .int .i64 r, .int .i64 h, .int .i64 w, l, .int .i64 f, .nilslice, .nilslice], .agg [.int .i64 k', .int .i64 m', .int .i64 e', .str s', .bool b', .int .i64 r', .int .i64 h', .int .i64 w', l', .int .i64 f', .nilslice, .nilslice]], [o, o'] =>
    match rowsIn 0 l o, rowsIn 1 l' o' with
    | some (a, R), some (a', S) => .chk (decide (a ≤ R.length ∧ a' ≤ S.length ∧ a < 1000000000)) (.chk (sameF k m e s b r h w f k' m' e' s' b' r' h' w' f' && eqRows a a' R S) (.ret (.bool true) [o, o']))
    | _, _ => .fail
  | [.agg [.int .i64 k, .int .i64 m, .int .i64 e, .str s, .bool b, .int .i64 r, .int .i64 h, .int .i64 w, .nilslice, .int .i64 f, .nilslice, .nilslice], .agg [.int .i64 k', .int .i64 m', .int .i64 e', .str s', .bool b', .int .i64 r', .int .i64 h', .int .i64 w', .nilslice, .int .i64 f', .nilslice, .nilslice]], [] =>
    .chk (sameF k m e s b r h w f k' m' e' s' b' r' h' w' f') (.ret (.bool true) [])
  | _, _ => .fail
section
variable (tx : List UInt8 → Bool)
def psT (x y : List CV) (X : Ans) : Ans := .chk (samR x y) X
variable (H W : Int) (N : Nat)
end
section
variable (f : FV) (tx : List UInt8 → Bool) (a1 a2 a3 : List CV → List CV) (q1 q2 q3 : List CV → Bool)
variable (k m e : Int) (s : List UInt8) (b : Bool) (a : Nat) (R : List (List CV))
end
end Go.Proofs.YtdomenmfkbfakaaGreatDoor

/- Law 3: what is told of what is told (ValTwice): the tree of a plain value. -/
set_option linter.unusedVariables false
set_option linter.unusedSimpArgs false
namespace Go.Proofs.YtdomenmfkbfakaaGreatDoor
open Go Sx
section
variable (f : FV) (tx : List UInt8 → Bool) (a1 a2 a3 : List CV → List CV) (q1 q2 q3 : List CV → Bool)
variable (k m e : Int) (s : List UInt8) (b : Bool) (a : Nat) (R : List (List CV))
end
end Go.Proofs.YtdomenmfkbfakaaGreatDoor

/- Law 3: what is told of what is told (ValTwice): the tree of an array. -/
set_option linter.unusedVariables false
set_option linter.unusedSimpArgs false
namespace Go.Proofs.YtdomenmfkbfakaaGreatDoor
open Go Sx
section
variable (f : FV) (tx : List UInt8 → Bool) (a1 a2 a3 : List CV → List CV) (q1 q2 q3 : List CV → Bool)
variable (k m e : Int) (s : List UInt8) (b : Bool) (a : Nat) (R : List (List CV))
end
end Go.Proofs.YtdomenmfkbfakaaGreatDoor

/- Layer 1: what is written of a decimal is read as that decimal. -/
set_option linter.unusedVariables false
set_option linter.unusedSimpArgs false
set_option maxRecDepth 20000
namespace Go.Proofs.YtdomenmfkbfakaaGreatDoor.Dq
open Go Sx Dc











end Go.Proofs.YtdomenmfkbfakaaGreatDoor.Dq

/- Law 3: what is told of what is told (ValTwice): it is so. -/
set_option linter.unusedVariables false
set_option linter.unusedSimpArgs false
set_option linter.unusedSectionVars false
namespace Go.Proofs.YtdomenmfkbfakaaGreatDoor
open Go Sx
/-- What is told as a number, as a text, as a truth. -/
def IsN (y : List CV) : Prop := (∃ m e, Dq.rightB m e = true ∧ y = nmR m e) ∨ ∃ n, (1 ≤ n ∧ n ≤ 9) ∧ y = errR n
def IsT (y : List CV) : Prop := (∃ s, isTx s = true ∧ y = txR s) ∨ ∃ n, (1 ≤ n ∧ n ≤ 9) ∧ y = errR n
def IsB (y : List CV) : Prop := (∃ b, y = trR b) ∨ ∃ n, (1 ≤ n ∧ n ≤ 9) ∧ y = errR n
theorem IsN.nrm {y : List CV} (h : IsN y) : nrm y = y := by
  rcases h with ⟨m, e, h, rfl⟩ | ⟨n, h, rfl⟩ <;> rfl
theorem IsT.nrm {y : List CV} (h : IsT y) : Go.Proofs.YtdomenmfkbfakaaGreatDoor.nrm y = y := by
  rcases h with ⟨s, h, rfl⟩ | ⟨n, h, rfl⟩ <;> rfl
theorem IsB.nrm {y : List CV} (h : IsB y) : Go.Proofs.YtdomenmfkbfakaaGreatDoor.nrm y = y := by
  rcases h with ⟨s, rfl⟩ | ⟨n, h, rfl⟩ <;> rfl
-- plain
section
variable {af : List CV → List CV} {q : List CV → Bool} (ha : afOk af q)
include ha
end
theorem ps_run {x y : List CV} (h : x = y) {X : Ans} {r : Option (AV × List PObj)} (hX : X.run pure2 = r) : (psT x y X).run pure2 = r := by
  subst h
  unfold psT
  rw [chkT (sameF_refl ..)]; exact hX
-- arrays
section
variable {H W : Int} {N : Nat} (h1 : 1 ≤ H ∧ H ≤ 5) (h2 : 1 ≤ W ∧ W ≤ 5) (hN : (N : Int) = H * W) (h25 : N ≤ 25)
/-- Rows that are right. -/
def RigL (N : Nat) (M : List (List CV)) : Prop := N ≤ M.length ∧ ∀ j, j < N → rigR isTx (Sx.rowAt M j) = true
theorem RigL.okRows {M : List (List CV)} (h25 : N ≤ 25) (h : RigL N M) : Go.Proofs.YtdomenmfkbfakaaGreatDoor.okRows N M := ⟨h.1, by omega, fun j hj => plR_of (h.2 j hj)⟩
include h1 h2 hN h25
end
end Go.Proofs.YtdomenmfkbfakaaGreatDoor

/- Layer 3: what is put in (val.Read), what is written of a plain value (val.Text): the trees. -/
set_option linter.unusedVariables false
set_option linter.unusedSimpArgs false
namespace Go.Proofs.YtdomenmfkbfakaaGreatDoor
open Go Sx
def ePre (p : List UInt8 → List UInt8 → Bool) : Ent := fun args pre => match args, pre with
  | [.str l, .str t], [] => .chk (Nat.beq t.length 1) (.ret (.bool (p l t)) [])
  | _, _ => .fail
def eTrm (p : List UInt8 → List UInt8 → Bool) : Ent := fun args pre => match args, pre with
  | [.str l, .str t], [] => .chk (Nat.beq t.length 1) (.ret (.str (bcond (p l t) (l.drop 1) l)) [])
  | _, _ => .fail
abbrev l1 (c : UInt8) : Int := ((([c] : List UInt8).length : Nat) : Int)
theorem pre_comes (l : List UInt8) (c : UInt8) : Comes [] nolv 43 [.str l, .str [c]] [] (.br (decide ((l.length : Int) ≥ l1 c)) (.chk (decide (0 ≤ l1 c ∧ (l1 c).toNat ≤ l.length)) (.ret (.bool (List.take ((l1 c).toNat - 0) (List.drop 0 l) == [c])) [])) (.ret (.bool false) [])) := by unfold Comes; kernel_rfl
theorem prs_comes (l : List UInt8) (c : UInt8) : Comes [] nolv 94 [.str l, .str [c]] [] (.br (decide ((l.length : Int) ≥ l1 c)) (.chk (decide (0 ≤ l1 c ∧ (l1 c).toNat ≤ l.length)) (.ret (.bool (List.take ((l1 c).toNat - 0) (List.drop 0 l) == [c])) [])) (.ret (.bool false) [])) := by unfold Comes; kernel_rfl
theorem trm_comes (p : List UInt8 → List UInt8 → Bool) (l : List UInt8) (c : UInt8) : Comes [(94, ePre p)] nolv 50 [.str l, .str [c]] [] (.br (p l [c]) (.chk (decide (0 ≤ l1 c ∧ (l1 c).toNat ≤ l.length)) (.ret (.str (List.take (l.length - (l1 c).toNat) (List.drop (l1 c).toNat l))) [])) (.ret (.str l) [])) := by unfold Comes; kernel_rfl
def R2 (x : List CV) (e : Int) : Ans := .ret (.tuple [vR x, .int .i64 e]) []
def flT (sm : List UInt8 → List UInt8) (low : List UInt8) : List (List UInt8) → Int → Ans → Ans
  | [], _, X => X
  | t :: r, n, X => .br (low == sm t) (R2 (errR n) 0) (flT sm low r (n + 1) X)
/-- The errors' texts by their numbers. -/
def fltS : List (List UInt8) := [[], [35, 78, 85, 76, 76, 33], [35, 68, 73, 86, 47, 48, 33], [35, 86, 65, 76, 85, 69, 33], [35, 82, 69, 70, 33], [35, 78, 65, 77, 69, 63], [35, 78, 85, 77, 33], [35, 78, 47, 65], [35, 83, 80, 73, 76, 76, 33], [35, 67, 73, 82, 67, 33]]
def zP : List CV := mkR 0 0 0 [] false 0 0 0 0
section
variable (p : List UInt8 → List UInt8 → Bool) (rd : List UInt8 → Int × Int × Int) (sm : List UInt8 → List UInt8) (tx : List UInt8 → Bool)
def tRd : Tab := [(43, ePre p), (50, eTrm p), (44, eRdF rd), (46, eSmF sm), (51, eIsT tx)]
def endR (t : List UInt8) : Ans := .chk (decide (t.length ≤ 1000000)) (.br (!(tx t)) (R2 zP 30) (R2 (txR t) 0))
def rdT (s : List UInt8) : Ans := .br (p s [61]) (R2 zP 30) (.br (s == []) (R2 zP 0) (.chk (decide (s.length < 1000000)) (.br ((rd s).2.2 == 0) (R2 (nmR (rd s).1 (rd s).2.1) 0) (.chk (decide (s.length < 1000000))
  (.br (sm s == sTrue) (R2 (trR (sm s == sTrue)) 0) (.br (sm s == sFalse) (R2 (trR (sm s == sTrue)) 0) (flT sm (sm s) fltS 0 (endR tx (bcond (p s [39]) (s.drop 1) s)))))))))
theorem rd_comes (s : List UInt8) : Comes (tRd p rd sm tx) nolv 17 [.str s] [] (rdT p rd sm tx s) := by unfold Comes; kernel_rfl
end
/-- A reading of texts, not looked into. -/
def eRdV (rv : List UInt8 → List CV × Int) : Ent := fun args pre => match args, pre with
  | [.str s], [] => .chk (decide (s.length < 1000000)) (.ret (.tuple [vR (rv s).1, .int .i64 (rv s).2]) [])
  | _, _ => .fail
section
variable (tx : List UInt8 → Bool) (dt : Int → Int → List UInt8) (lt : List UInt8 → List UInt8) (m e : Int) (s : List UInt8) (b : Bool) (r h w f : Int)
end
end Go.Proofs.YtdomenmfkbfakaaGreatDoor

/- Layer 3: what is put in and what is written: of plain values. -/
set_option linter.unusedVariables false
set_option linter.unusedSimpArgs false
set_option linter.unusedSectionVars false
namespace Go.Proofs.YtdomenmfkbfakaaGreatDoor
open Go Sx
/-- Does a text begin so? -/
def preB (l t : List UInt8) : Bool := l.take t.length == t
def trimQ (s : List UInt8) : List UInt8 := bcond (preB s [39]) (s.drop 1) s
def fGo (low : List UInt8) : List (List UInt8) → Int → Int
  | [], n => n
  | t :: r, n => bcond (low == smallL t) n (fGo low r (n + 1))
/-- Which error's text this is; 10: none. -/
def fErr (low : List UInt8) : Int := fGo low fltS 0
/-- The value of what is put in. -/
def rdV (s : List UInt8) : List CV × Int :=
  bcond (preB s [61]) (zP, 30) (bcond (s == []) (zP, 0) (bcond ((Dq.readR s).2.2 == 0) (nmR (Dq.readR s).1 (Dq.readR s).2.1, 0)
    (bcond (smallL s == sTrue) (trR (smallL s == sTrue), 0) (bcond (smallL s == sFalse) (trR (smallL s == sTrue), 0)
      (bcond (fErr (smallL s) == 10) (bcond (isTx (trimQ s)) (txR (trimQ s), 0) (zP, 30)) (errR (fErr (smallL s)), 0))))))
-- what begins so
theorem pre1 (c d : UInt8) (t : List UInt8) : preB (c :: t) [d] = (c == d) := by
  show ([c] == [d]) = (c == d)
  cases h : c == d with
  | true => rw [beq_iff_eq.1 h]; exact beq_self_eq_true _
  | false => rw [beq_eq_false_iff_ne] at h ⊢; intro e; cases e; exact h rfl
theorem fGo_bd (low : List UInt8) : ∀ (l : List (List UInt8)) (n : Int), n ≤ fGo low l n ∧ fGo low l n ≤ n + l.length
  | [], n => by simp [fGo]
  | t :: r, n => by
    have := fGo_bd low r (n + 1)
    rw [fGo, List.length_cons]
    cases low == smallL t
    · simp only [bcond]; omega
    · simp only [bcond]; omega
/-- What is read is right, and there is no error, or one. -/
theorem rd_rig (s : List UInt8) : rigR isTx (rdV s).1 = true ∧ ((rdV s).2 = 0 ∨ (rdV s).2 = 30) := by
  have hz : rigR isTx zP = true := by kernel_rfl
  unfold rdV
  cases preB s [61] with
  | true => exact ⟨hz, .inr rfl⟩
  | false => cases hs : s == [] with
    | true => exact ⟨hz, .inl rfl⟩
    | false => cases (Dq.readR s).2.2 == 0 with
      | true => exact ⟨rig_nm (readR_right s), .inl rfl⟩
      | false => cases smallL s == sTrue with
        | true => exact ⟨rig_tr _, .inl rfl⟩
        | false => cases smallL s == sFalse with
          | true => exact ⟨rig_tr _, .inl rfl⟩
          | false => cases hf : fErr (smallL s) == 10 with
            | false =>
              refine ⟨rig_err ?_, .inl rfl⟩
              have b1 := fGo_bd (smallL s) fltS.tail 1
              have e : fErr (smallL s) = fGo (smallL s) fltS.tail 1 := by
                show bcond (smallL s == smallL []) 0 (fGo (smallL s) fltS.tail 1) = _
                have : (smallL s == smallL []) = false := by
                  rw [beq_eq_false_iff_ne] at hs ⊢
                  intro e
                  cases s with
                  | nil => exact hs rfl
                  | cons c t => cases e
                rw [this]; rfl
              rw [beq_eq_false_iff_ne, e] at hf
              have hl : (fltS.tail.length : Int) = 9 := by decide
              rw [e]; omega
            | true => cases ht : isTx (trimQ s) with
              | true => exact ⟨rig_tx ht, .inl rfl⟩
              | false => exact ⟨hz, .inr rfl⟩
end Go.Proofs.YtdomenmfkbfakaaGreatDoor

/- Layer 3: what is put in (val.Read), what is written of a plain value (val.Text): as entries. -/
set_option linter.unusedVariables false
set_option linter.unusedSimpArgs false
namespace Go.Proofs.YtdomenmfkbfakaaGreatDoor
open Go Sx
theorem preT_run (l : List UInt8) (c : UInt8) : (Ans.br (decide ((l.length : Int) ≥ l1 c)) (.chk (decide (0 ≤ l1 c ∧ (l1 c).toNat ≤ l.length)) (.ret (.bool (List.take ((l1 c).toNat - 0) (List.drop 0 l) == [c])) [])) (.ret (.bool false) [])).run pure2 = pure2 (.bool (preB l [c])) [] := by
  by_cases h : 1 ≤ l.length
  · rw [brT (decide_eq_true (show (l.length : Int) ≥ l1 c by show (1 : Int) ≤ _; omega)), chkT (decide_eq_true ⟨by show (0 : Int) ≤ 1; omega, by show (1 : Int).toNat ≤ _; exact h⟩)]; rfl
  · rw [brF (decide_eq_false (show ¬ (l.length : Int) ≥ l1 c by show ¬ (1 : Int) ≤ _; omega))]
    cases l with
    | nil => rfl
    | cons a t => simp at h
theorem one_of {t : List UInt8} (h : Nat.beq t.length 1 = true) : ∃ c, t = [c] := by
  have := Nat.eq_of_beq_eq_true h
  match t, this with
  | [c], _ => exact ⟨c, rfl⟩
theorem ePre_ok : EntOK Tryz.prog 43 (ePre preB) := fun args pre => by
  unfold ePre
  split
  · refine ⟨fun g => ?_, fun _ => trivial⟩
    obtain ⟨c, rfl⟩ := one_of g
    exact meets_ent (pre := []) (post := []) .nil host ((pre_comes _ c).trans (preT_run _ c)) nolv_ok
  · trivial
theorem ePrs_ok : EntOK Tryz.prog 94 (ePre preB) := fun args pre => by
  unfold ePre
  split
  · refine ⟨fun g => ?_, fun _ => trivial⟩
    obtain ⟨c, rfl⟩ := one_of g
    exact meets_ent (pre := []) (post := []) .nil host ((prs_comes _ c).trans (preT_run _ c)) nolv_ok
  · trivial
theorem eTrm_ok : EntOK Tryz.prog 50 (eTrm preB) := fun args pre => by
  unfold eTrm
  split
  · rename_i l t
    refine ⟨fun g => ?_, fun _ => trivial⟩
    obtain ⟨c, rfl⟩ := one_of g
    refine meets_ent (pre := []) (post := []) (.cons ePrs_ok .nil) host ((trm_comes preB l c).trans ?_) nolv_ok
    cases h : preB l [c] with
    | false => rfl
    | true =>
      have hl : 1 ≤ l.length := by
        cases l with
        | nil => cases h
        | cons a t => simp
      rw [brT rfl, chkT (decide_eq_true ⟨by show (0 : Int) ≤ 1; omega, by show (1 : Int).toNat ≤ _; exact hl⟩)]
      show pure2 (.str (List.take (l.length - 1) (List.drop 1 l))) [] = pure2 (.str (l.drop 1)) []
      rw [List.take_of_length_le (by simp)]
  · trivial
theorem flT_run {low : List UInt8} {X : Ans} : ∀ (l : List (List UInt8)) (n : Int), (flT smallL low l n X).run pure2 = (bcond (fGo low l n == n + l.length) X (R2 (errR (fGo low l n)) 0)).run pure2
  | [], n => by
    rw [show (fGo low [] n == n + (([] : List (List UInt8)).length : Int)) = true from beq_iff_eq.2 (by simp [fGo])]; rfl
  | t :: r, n => by
    rw [flT, fGo]
    cases low == smallL t with
    | true =>
      rw [brT rfl, show (bcond true n (fGo low r (n + 1)) == n + ((t :: r : List (List UInt8)).length : Int)) = false from beq_eq_false_iff_ne.2 (by simp only [bcond, List.length_cons]; omega)]; rfl
    | false =>
      rw [brF rfl, flT_run r (n + 1)]
      show (bcond (fGo low r (n + 1) == n + 1 + (r.length : Int)) X (R2 (errR (fGo low r (n + 1))) 0)).run pure2 = (bcond (fGo low r (n + 1) == n + ((t :: r).length : Int)) X (R2 (errR (fGo low r (n + 1))) 0)).run pure2
      rw [show n + 1 + (r.length : Int) = n + ((t :: r).length : Int) by rw [List.length_cons]; omega]
theorem rdT_run {s : List UInt8} (hs : s.length < 1000000) : (rdT preB Dq.readR smallL isTx s).run pure2 = pure2 (.tuple [vR (rdV s).1, .int .i64 (rdV s).2]) [] := by
  unfold rdT rdV
  cases preB s [61] with
  | true => rfl
  | false => cases s == [] with
    | true => rfl
    | false =>
      rw [brF rfl, brF rfl, chkT (decide_eq_true hs)]
      cases (Dq.readR s).2.2 == 0 with
      | true => rfl
      | false =>
        rw [brF rfl, chkT (decide_eq_true hs)]
        cases smallL s == sTrue with
        | true => rfl
        | false => cases smallL s == sFalse with
          | true => rfl
          | false =>
            rw [brF rfl, brF rfl, flT_run]
            show (bcond (fErr (smallL s) == 10) (endR isTx (trimQ s)) (R2 (errR (fErr (smallL s))) 0) : Ans).run pure2 = _
            cases fErr (smallL s) == 10 with
            | false => rfl
            | true =>
              have hl : (trimQ s).length ≤ 1000000 := by
                unfold trimQ
                cases preB s [39]
                · simp only [bcond]; omega
                · simp only [bcond, List.length_drop]; omega
              show (endR isTx (trimQ s)).run pure2 = pure2 (.tuple [vR (bcond (isTx (trimQ s)) (txR (trimQ s), (0 : Int)) (zP, 30)).1, .int .i64 (bcond (isTx (trimQ s)) (txR (trimQ s), (0 : Int)) (zP, 30)).2]) []
              unfold endR
              rw [chkT (decide_eq_true hl)]
              cases isTx (trimQ s) <;> rfl
theorem eRdV_ok : EntOK Tryz.prog 17 (eRdV rdV) := fun args pre => by
  unfold eRdV
  split
  · rename_i s
    refine ⟨fun g => ?_, fun _ => trivial⟩
    exact meets_ent (pre := []) (post := []) (.cons ePre_ok (.cons eTrm_ok (.cons eRdF_ok (.cons eSmF_ok (.cons eIsT_ok .nil))))) host ((rd_comes preB Dq.readR smallL isTx s).trans (rdT_run (of_decide_eq_true g))) nolv_ok
  · trivial
end Go.Proofs.YtdomenmfkbfakaaGreatDoor

/- Law 3: what is written of a plain value is read as that value (ValBack). -/
set_option linter.unusedVariables false
set_option linter.unusedSimpArgs false
namespace Go.Proofs.YtdomenmfkbfakaaGreatDoor
open Go Sx
section
variable (fv : FV) (tx : List UInt8 → Bool) (wr : Int → Int → Int → List UInt8 → Bool → Int → List UInt8) (rv : List UInt8 → List CV × Int)
end
end Go.Proofs.YtdomenmfkbfakaaGreatDoor
