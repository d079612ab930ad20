/- Layer 26: all pieces are kept: the law's loop, all rounds; the law, evaluated. -/
import Derived.Test.YtoekeplljjaehaaGr06
set_option linter.unusedVariables false
set_option linter.unusedSimpArgs false
namespace Go.Proofs.Ytoekeplljjaehaa
open Go Sx
/-- The numbers below one. -/
def upto (m : Nat) : List Int := (List.range m).map fun j => ((j : Nat) : Int)
theorem upto_len (m : Nat) : (upto m).length = m := by unfold upto; simp
theorem upto_succ (m : Nat) : upto (m + 1) = upto m ++ [(m : Int)] := by unfold upto; rw [List.range_succ, List.map_append]; rfl
theorem loopN {l1 : Nat} {r1 r2 : List (List CV)} {w k t : List UInt8} {rows : List (List CV)} {m : Nat} (h0 : 0 < m) (hm : m ≤ 1099511627776) :
    Tri Try.prog (.loop loopN1) (sN0 l1 r1 r2 w k t rows m).toA (.exit 0) (sNX l1 r1 r2 w k t rows m m (upto m)).toA 2 := by
  refine loop_rounds (ent_sound (T := tAn eFilV) (tAn_ok eFilV_ok) host nolv_ok (NF := 64) (m := 1) 20) (NF := 64) (m := 1) loops_none (fun n => hasN [0, 5, 6, 7, 8, 9, 10, 11] n) (fun n => hasN [0, 5, 6, 7, 8, 9, 10] n) (ι := { j : Nat // j ≤ m })
    (fun j => match j.1 with | 0 => sN0 l1 r1 r2 w k t rows m | j + 1 => sNV l1 r1 r2 w k t rows m ((j + 1 : Nat) : Int) (j + 1) (upto (j + 1))) (fun j => m - j.1) (fun _ => (.exit 0, sNX l1 r1 r2 w k t rows m m (upto m))) ?_ (fun _ => by simp) ⟨0, Nat.zero_le _⟩
  rintro ⟨j, hj⟩
  cases j with
  | zero =>
    refine .inl ⟨⟨1, h0⟩, by simp only; omega, rfl, ?_⟩
    refine (rN0 l1 r1 r2 w k t rows m).trans ?_
    rw [bcT (b := decide _) (decide_eq_true (by omega))]
    have e : iN 0 = ((0 + 1 : Nat) : Int) := iN_nat (j := 0) (by omega)
    rw [e]; rfl
  | succ j =>
    by_cases h : j + 1 < m
    · refine .inl ⟨⟨j + 2, h⟩, by simp only; omega, rfl, ?_⟩
      refine (rNV l1 r1 r2 w k t rows m ((j + 1 : Nat) : Int) (j + 1) (upto (j + 1))).trans ?_
      rw [bcT (b := decide _) (decide_eq_true (by omega)), chks_true (by
        intro b hb
        rw [List.mem_singleton.1 hb, upto_len, decide_eq_true (by omega), Bool.true_and]
        exact decide_eq_true (by omega)), iN_nat (j := j + 1) (by omega), ← upto_succ]
    · refine .inr ?_
      have : m = j + 1 := by omega
      subst this
      refine (rNV l1 r1 r2 w k t rows (j + 1) ((j + 1 : Nat) : Int) (j + 1) (upto (j + 1))).trans ?_
      rw [bcF (b := decide _) (decide_eq_false (by omega))]
noncomputable def eqSt (a b : PState) : Bool := @decide (a = b) (Classical.propDecidable _)
theorem eqSt_of {a b : PState} (h : eqSt a b = true) : a = b := by unfold eqSt at h; exact @of_decide_eq_true _ (Classical.propDecidable _) h
theorem eqSt_refl (a : PState) : eqSt a a = true := by unfold eqSt; exact @decide_eq_true _ (Classical.propDecidable _) rfl
def posM (m : Nat) : Bool := decide (0 < m ∧ m ≤ 1099511627776)
noncomputable def eNL (l1 : Nat) (r1 r2 : List (List CV)) (w k t : List UInt8) (rows : List (List CV)) (m : Nat) : Nat → PState → LAns := fun K st =>
  .chk (Nat.beq K 2) (.chk (eqSt st (sN0 l1 r1 r2 w k t rows m)) (.chk (posM m) (.out (.exit 0) (sNX l1 r1 r2 w k t rows m m (upto m)))))
theorem eNL_ok (l1 : Nat) (r1 r2 : List (List CV)) (w k t : List UInt8) (rows : List (List CV)) (m : Nat) (K : Nat) (st : PState) : LAnsOK Try.prog loopN1 K st (eNL l1 r1 r2 w k t rows m K st) := by
  unfold eNL
  refine ⟨fun g1 => ⟨fun g2 => ⟨fun g3 => ?_, fun _ => trivial⟩, fun _ => trivial⟩, fun _ => trivial⟩
  obtain rfl := beqT.1 g1
  obtain rfl := eqSt_of g2
  obtain ⟨h1, h2⟩ := of_decide_eq_true g3
  exact loopN h1 h2
noncomputable def lvN (l1 : Nat) (r1 r2 : List (List CV)) (w k t : List UInt8) (rows : List (List CV)) (m : Nat) : FuncId → Lv := fun f => match f with
  | 5 => { keep := fun _ => some [0, 5, 6, 7, 8, 9, 10, 11], ent := fun i => match i with | 8 => some (eNL l1 r1 r2 w k t rows m) | _ => none }
  | _ => {}
theorem lvN_ok (l1 : Nat) (r1 r2 : List (List CV)) (w k t : List UInt8) (rows : List (List CV)) (m : Nat) : LvOK Try.prog (lvN l1 r1 r2 w k t rows m) := by
  intro f fn body hf hb K x hx id e hid he st
  by_cases h : f = 5
  · subst h
    obtain rfl : fn = Try.f5 := (Option.some.inj (Try.func5.symm.trans hf)).symm
    have hbody : body = bodyOf Try.f5 := by unfold bodyOf; rw [hb]; rfl
    subst hbody
    have h1 : loopBodies (bodyOf Try.f5) = [loopN1] := by kernel_rfl
    rw [h1] at hx
    have hx' := List.mem_singleton.1 hx
    have h2 : id = 8 := by
      have h3 : headReg loopN1 = some 8 := by kernel_rfl
      rw [hx', h3] at hid; exact (Option.some.inj hid).symm
    subst h2
    have he' : eNL l1 r1 r2 w k t rows m = e := Option.some.inj he
    subst he'
    rw [hx']
    exact eNL_ok l1 r1 r2 w k t rows m K st
  · exfalso
    have : (lvN l1 r1 r2 w k t rows m f).ent id = none := by
      unfold lvN
      split
      · exact absurd rfl h
      · rfl
    rw [this] at he; cases he
def allS (t : List UInt8) : List UInt8 := (t.drop (Int.toNat 0)).take (Int.toNat 320)
def vB (rows : List (List CV)) (m : Nat) : Bool := decide (rows.length = m ∧ m ≤ 1099511627776)
def endN (l1 : Nat) (r1 r2 : List (List CV)) (k t a : List UInt8) : Ans :=
  .chk (smN 320 a a) (.br (allS a == allS t) (.chk (smN 320 k k) (.chk (okA l1 r1) (.chk (smN 320 k k) (.br (allS k == allS k) (.chk (smN 320 t t) (.ret (.bool (allS t == allS t)) [fr r1, fr r2])) (.ret (.bool false) [fr r1, fr r2]))))) (.ret (.bool false) [fr r1, fr r2]))
def xN0 (l1 l2 : Nat) (r1 r2 : List (List CV)) : Ans :=
  ansChks (endN l1 r1 r2 (sT1 r1) (sT2 r1 r2) (sT1 r1)) [okA l1 r1, okA l2 r2, (fillP (r2.take 8)).isEmpty, okA l1 r1, okA l2 r2, (fillP (r2.take 8)).isEmpty, okA l1 r1, okA l2 r2, (fillP (r2.take 8)).isEmpty,
    smN 320 (sT1 r1) (sT2 r1 r2), smN 320 (sT1 r1) (sT2 r1 r2), smN 320 (sT1 r1) (sT2 r1 r2), smN 320 (sT1 r1) (sT2 r1 r2), smN 320 (sT2 r1 r2) (sT2 r1 r2)]
noncomputable def xNV (l1 l2 : Nat) (r1 r2 : List (List CV)) (rows : List (List CV)) (m : Nat) : Ans :=
  ansChks (endN l1 r1 r2 (sT1 r1) (sT2 r1 r2) (layAll rows (upto m) (sT1 r1))) [okA l1 r1, okA l2 r2, !(fillP (r2.take 8)).isEmpty, okA l1 r1, okA l2 r2, !(fillP (r2.take 8)).isEmpty, okA l1 r1, okA l2 r2, !(fillP (r2.take 8)).isEmpty,
    smN 320 (sT1 r1) (sT2 r1 r2), vB rows m, eqSt (sN0 l1 r1 r2 (allS (sT2 r1 r2)) (sT1 r1) (sT2 r1 r2) rows m) (sN0 l1 r1 r2 (allS (sT2 r1 r2)) (sT1 r1) (sT2 r1 r2) rows m), posM m,
    askC (upto m) m 320 320 320 320 m (sT1 r1) (sT2 r1 r2) rows, okK m (tk m) (upto m), rowsB 320 rows, smN 320 (sT1 r1) (sT2 r1 r2), vB rows m, smN 320 (sT1 r1) (sT2 r1 r2), vB rows m, smN 320 (sT2 r1 r2) (sT2 r1 r2)]
end Go.Proofs.Ytoekeplljjaehaa
