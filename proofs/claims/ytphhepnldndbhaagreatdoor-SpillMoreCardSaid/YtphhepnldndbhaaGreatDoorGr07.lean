/- Layer 14: the places of a workbook's cells (book.Cells). -/
import Derived.Test.YtphhepnldndbhaaGreatDoorGr06
set_option linter.unusedVariables false
set_option linter.unusedSimpArgs false
set_option linter.unusedSectionVars false
namespace Go.Proofs.YtphhepnldndbhaaGreatDoor
open Go Sx
/-- The places of the cells of sheet s. -/
def colL (s : Int) (X : List (List CV)) : Nat → List (List CV)
  | 0 => []
  | j + 1 => colL s X j ++ [mkA s (c0 (Sx.rowAt X j)) (c1 (Sx.rowAt X j))]
theorem colL_len (s : Int) (X : List (List CV)) : ∀ j, (colL s X j).length = j
  | 0 => rfl
  | j + 1 => by rw [colL, List.length_append, colL_len s X j]; rfl
theorem atC_nat (X : List (List CV)) (s : Int) (j : Nat) : atC X s (j : Int) = mkA s (c0 (Sx.rowAt X j)) (c1 (Sx.rowAt X j)) := by unfold atC; rw [Int.toNat_natCast]
theorem loops_c {K n : Nat} (S : Nat → PState) (E : PState) (step : ∀ j, j < n → code (ent Tryz.prog tCk nolv 64 1 20) Tryz.prog {} K 64 1 loopC (S j) (endK K 64 kC kCX) = some (.normal, S (j + 1))) (last : code (ent Tryz.prog tCk nolv 64 1 20) Tryz.prog {} K 64 1 loopC (S n) (endK K 64 kC kCX) = some (.exit 2, E)) : Tri Tryz.prog (.loop loopC) (S 0).toA (.exit 2) E.toA K := by
  have key := loop_rounds (ent_sound (T := tCk) tCk_ok host nolv_ok (NF := 64) (m := 1) 20) (NF := 64) (m := 1) (x := loopC) (K := K) loops_none kC kCX (ι := { j : Nat // j ≤ n }) (fun j => S j.1) (fun j => n - j.1) (fun _ => (.exit 2, E)) ?_ (fun _ => fun e => by cases e) ⟨0, Nat.zero_le _⟩
  · exact key
  rintro ⟨j, hj⟩
  simp only
  by_cases hlt : j < n
  · exact .inl ⟨⟨j + 1, hlt⟩, by simp only; omega, trivial, step j hlt⟩
  · obtain rfl : j = n := by omega
    exact .inr last
section
variable {X Y L : List (List CV)} {p q n k : Nat} {s : Int}
theorem ckR_ok {X : List (List CV)} {j : Nat} (hj : j < X.length) : ∀ b ∈ ckR X X.length (j : Int), b = true := all2 (ixN_nat hj) (inR_nat hj)
theorem ckV_ok {X L : List (List CV)} {j : Nat} (hj : j < X.length) (hl : L.length ≤ 1000) : ∀ b ∈ ckV X L X.length L.length (j : Int), b = true := by
  intro b hb
  unfold ckV at hb
  simp only [List.mem_cons, List.not_mem_nil, or_false] at hb
  rcases hb with rfl | rfl | rfl
  · exact ixN_nat hj
  · exact inR_nat hj
  · rw [decide_eq_true (show (vA L).len = L.length * 3 from rfl)]; unfold roomB; exact decide_eq_true ⟨by omega, by omega⟩
/-- From nothing on. -/
def SN (pre : List (Option PObj)) (s : Int) (m : Nat) (X : List (List CV)) (src : AV) : Nat → PState
  | 0 => sC pre .nilslice s src X.length 0 []
  | j + 1 => sC pre (.vec m (j + 1)) s src X.length ((j + 1 : Nat) : Int) [some (vA (colL s X (j + 1)))]
theorem loopCA (h0 : 0 < X.length) (hn : X.length ≤ 400) : Tri Tryz.prog (.loop loopC) (sC (pX X p) .nilslice s (.vec 1 X.length) X.length 0 []).toA (.exit 2) (sCX (pX X p) (.vec 2 X.length) s [some (vA (colL s X X.length))]).toA 2 := by
  refine loops_c (n := X.length) (SN (pX X p) s 2 X (.vec 1 X.length)) _ (fun j hj => ?_) ?_
  · have hu : up1 (j : Int) = ((j + 1 : Nat) : Int) := up1_nat (by omega)
    cases j with
    | zero => exact (rAn X p X.length s 0).trans ((bcT (decide_eq_true (by omega))).trans (chks_true (ckR_ok hj)))
    | succ j =>
      have hl := colL_len s X (j + 1)
      have rd := rAv X (colL s X (j + 1)) p X.length (j + 1) s ((j + 1 : Nat) : Int)
      have ck := ckV_ok (L := colL s X (j + 1)) hj (by omega)
      rw [hl] at ck
      rw [bcT (decide_eq_true (by omega)), chks_true ck, hu, atC_nat] at rd
      exact rd
  · cases hn' : X.length with
    | zero => omega
    | succ j =>
      have rd := rAv X (colL s X (j + 1)) p X.length (j + 1) s ((j + 1 : Nat) : Int)
      rw [bcF (decide_eq_false (by omega)), hn'] at rd
      unfold SN
      rw [hn']
      exact rd
theorem loopCB (h0 : 0 < Y.length) (hn : Y.length ≤ 400) : Tri Tryz.prog (.loop loopC) (sC (pY Y q) .nilslice s (.vec 1 Y.length) Y.length 0 []).toA (.exit 2) (sCX (pY Y q) (.vec 2 Y.length) s [some (vA (colL s Y Y.length))]).toA 2 := by
  refine loops_c (n := Y.length) (SN (pY Y q) s 2 Y (.vec 1 Y.length)) _ (fun j hj => ?_) ?_
  · have hu : up1 (j : Int) = ((j + 1 : Nat) : Int) := up1_nat (by omega)
    cases j with
    | zero => exact (rBn Y q Y.length s 0).trans ((bcT (decide_eq_true (by omega))).trans (chks_true (ckR_ok hj)))
    | succ j =>
      have hl := colL_len s Y (j + 1)
      have rd := rBv Y (colL s Y (j + 1)) q Y.length (j + 1) s ((j + 1 : Nat) : Int)
      have ck := ckV_ok (L := colL s Y (j + 1)) hj (by omega)
      rw [hl] at ck
      rw [bcT (decide_eq_true (by omega)), chks_true ck, hu, atC_nat] at rd
      exact rd
  · cases hn' : Y.length with
    | zero => omega
    | succ j =>
      have rd := rBv Y (colL s Y (j + 1)) q Y.length (j + 1) s ((j + 1 : Nat) : Int)
      rw [bcF (decide_eq_false (by omega)), hn'] at rd
      unfold SN
      rw [hn']
      exact rd
theorem loopCC (h0 : 0 < X.length) (hn : X.length ≤ 400) : Tri Tryz.prog (.loop loopC) (sC (pXY X Y p q) .nilslice s (.vec 1 X.length) X.length 0 []).toA (.exit 2) (sCX (pXY X Y p q) (.vec 3 X.length) s [some (vA (colL s X X.length))]).toA 3 := by
  refine loops_c (n := X.length) (SN (pXY X Y p q) s 3 X (.vec 1 X.length)) _ (fun j hj => ?_) ?_
  · have hu : up1 (j : Int) = ((j + 1 : Nat) : Int) := up1_nat (by omega)
    cases j with
    | zero => exact (rCn X Y p q X.length s 0).trans ((bcT (decide_eq_true (by omega))).trans (chks_true (ckR_ok hj)))
    | succ j =>
      have hl := colL_len s X (j + 1)
      have rd := rCv X Y (colL s X (j + 1)) p q X.length (j + 1) s ((j + 1 : Nat) : Int)
      have ck := ckV_ok (L := colL s X (j + 1)) hj (by omega)
      rw [hl] at ck
      rw [bcT (decide_eq_true (by omega)), chks_true ck, hu, atC_nat] at rd
      exact rd
  · cases hn' : X.length with
    | zero => omega
    | succ j =>
      have rd := rCv X Y (colL s X (j + 1)) p q X.length (j + 1) s ((j + 1 : Nat) : Int)
      rw [bcF (decide_eq_false (by omega)), hn'] at rd
      unfold SN
      rw [hn']
      exact rd
theorem loopCD (hL : L.length ≤ 400) (hn : Y.length ≤ 400) : Tri Tryz.prog (.loop loopC) (sC (pXY X Y p q) (.vec 3 L.length) s (.vec 2 Y.length) Y.length 0 [some (vA L)]).toA (.exit 2) (sCX (pXY X Y p q) (.vec 3 (L ++ colL s Y Y.length).length) s [some (vA (L ++ colL s Y Y.length))]).toA 3 := by
  have key := loops_c (K := 3) (n := Y.length) (fun j => sC (pXY X Y p q) (.vec 3 (L ++ colL s Y j).length) s (.vec 2 Y.length) Y.length (j : Int) [some (vA (L ++ colL s Y j))]) (sCX (pXY X Y p q) (.vec 3 (L ++ colL s Y Y.length).length) s [some (vA (L ++ colL s Y Y.length))]) (fun j hj => ?_) ?_
  · simp only [colL, List.append_nil] at key; exact key
  · have hu : up1 (j : Int) = ((j + 1 : Nat) : Int) := up1_nat (by omega)
    have hl := colL_len s Y j
    have hll : (L ++ colL s Y j).length ≤ 1000 := by rw [List.length_append, hl]; omega
    have rd := rDv X Y (L ++ colL s Y j) p q Y.length (L ++ colL s Y j).length s (j : Int)
    rw [bcT (decide_eq_true (by omega)), chks_true (ckV_ok hj hll), hu, atC_nat] at rd
    have e : L ++ colL s Y (j + 1) = L ++ colL s Y j ++ [mkA s (c0 (Sx.rowAt Y j)) (c1 (Sx.rowAt Y j))] := by rw [colL, List.append_assoc]
    have e2 : (L ++ colL s Y (j + 1)).length = (L ++ colL s Y j).length + 1 := by rw [e, List.length_append]; rfl
    rw [e2, e]; exact rd
  · have rd := rDv X Y (L ++ colL s Y Y.length) p q Y.length (L ++ colL s Y Y.length).length s (Y.length : Int)
    rw [bcF (decide_eq_false (by omega))] at rd
    exact rd
end
-- the call
theorem rAz (X L : List (List CV)) (p k : Nat) : code (ent Tryz.prog tCk nolv 64 1 20) Tryz.prog {} 2 64 1 loopC (sC (pX X p) (.vec 2 k) 1 .nilslice 0 0 [some (vA L)]) (endK 2 64 kC kCX) = some (.exit 2, sCX (pX X p) (.vec 2 k) 1 [some (vA L)]) := by kernel_rfl
theorem rYz (Y : List (List CV)) (q : Nat) : code (ent Tryz.prog tCk nolv 64 1 20) Tryz.prog {} 2 64 1 loopC (sC (pY Y q) .nilslice 0 .nilslice 0 0 []) (endK 2 64 kC kCX) = some (.exit 2, sCX (pY Y q) .nilslice 0 []) := by kernel_rfl
theorem tri_z {K : Nat} {S E : PState} (h : code (ent Tryz.prog tCk nolv 64 1 20) Tryz.prog {} K 64 1 loopC S (endK K 64 kC kCX) = some (.exit 2, E)) : Tri Tryz.prog (.loop loopC) S.toA (.exit 2) E.toA K := loops_c (n := 0) (fun _ => S) E (fun j hj => absurd hj (Nat.not_lt_zero j)) h
noncomputable def eC1 (X L : List (List CV)) (c : Bool) : Nat → PState → LAns := fun K st => match (st.slots.getD 28 none : Option AV) with
  | some AV.nilslice => eAt 2 (sC (pX X X.length) (.vec 2 X.length) 1 .nilslice 0 0 [some (vA L)]) (.out (.exit 2) (sCX (pX X X.length) (.vec 2 X.length) 1 [some (vA L)])) K st
  | _ => eAt 2 (sC (pX X X.length) .nilslice 0 (.vec 1 X.length) X.length 0 []) (.chk c (.out (.exit 2) (sCX (pX X X.length) (.vec 2 X.length) 0 [some (vA L)]))) K st
noncomputable def eC2 (Y L : List (List CV)) (c : Bool) : Nat → PState → LAns := fun K st => match (st.slots.getD 28 none : Option AV) with
  | some AV.nilslice => eAt 2 (sC (pY Y Y.length) .nilslice 0 .nilslice 0 0 []) (.out (.exit 2) (sCX (pY Y Y.length) .nilslice 0 [])) K st
  | _ => eAt 2 (sC (pY Y Y.length) .nilslice 1 (.vec 1 Y.length) Y.length 0 []) (.chk c (.out (.exit 2) (sCX (pY Y Y.length) (.vec 2 Y.length) 1 [some (vA L)]))) K st
noncomputable def eC3 (X Y L L2 : List (List CV)) (k : Nat) (c : Bool) : Nat → PState → LAns := fun K st => match (st.slots.getD 6 none : Option AV) with
  | some AV.nilslice => eAt 3 (sC (pXY X Y X.length Y.length) .nilslice 0 (.vec 1 X.length) X.length 0 []) (.chk c (.out (.exit 2) (sCX (pXY X Y X.length Y.length) (.vec 3 X.length) 0 [some (vA L)]))) K st
  | _ => eAt 3 (sC (pXY X Y X.length Y.length) (.vec 3 X.length) 1 (.vec 2 Y.length) Y.length 0 [some (vA L)]) (.chk c (.out (.exit 2) (sCX (pXY X Y X.length Y.length) (.vec 3 k) 1 [some (vA L2)]))) K st
def kpC : Nat → Option (List Nat) := fun i => if i = 9 then some [6, 7, 20, 21, 22, 28, 29, 30] else none
noncomputable abbrev lvC (e : Nat → PState → LAns) : FuncId → Lv := lvOf 20 kpC (oneL 9 e)
abbrev clV (l : AV) : AV := .tuple [l, .int .i64 0]
abbrev clE : AV := .tuple [.nilslice, .int .i64 96]
theorem cl_0 : Comes tCk nolv 20 [bkW] [oSh .nilslice .nilslice] (.ret (clV .nilslice) [oSh .nilslice .nilslice]) := by unfold Comes; kernel_rfl
open Classical in
theorem cl_1 (X L : List (List CV)) (c : Bool) : Comes tCk (lvC (eC1 X L c)) 20 [bkW] [oSh (.vec 1 X.length) .nilslice, vC X]
  (.br (decide (w64 (w64 (0 + (X.length : Int)) + 0) ≤ 400)) (.chk (Nat.beq X.length X.length) (.chk (decide (okW X)) (.chk (eqSt (sC (pX X X.length) .nilslice 0 (.vec 1 X.length) X.length 0 []) (sC (pX X X.length) .nilslice 0 (.vec 1 X.length) X.length 0 [])) (.chk c (.chk (eqSt (sC (pX X X.length) (.vec 2 X.length) 1 .nilslice 0 0 [some (vA L)]) (sC (pX X X.length) (.vec 2 X.length) 1 .nilslice 0 0 [some (vA L)])) (.ret (clV (.vec 2 X.length)) [oSh (.vec 1 X.length) .nilslice, vC X, vA L])))))) (.ret clE [oSh (.vec 1 X.length) .nilslice, vC X])) := by unfold Comes; kernel_rfl
end Go.Proofs.YtphhepnldndbhaaGreatDoor

/- Layer 14: the places of a workbook's cells (book.Cells): the call. -/
set_option linter.unusedVariables false
set_option linter.unusedSimpArgs false
set_option linter.unusedSectionVars false
namespace Go.Proofs.YtphhepnldndbhaaGreatDoor
open Go Sx
open Classical in
theorem cl_2 (Y L : List (List CV)) (c : Bool) : Comes tCk (lvC (eC2 Y L c)) 20 [bkW] [oSh .nilslice (.vec 1 Y.length), vC Y]
  (.br (decide (w64 (w64 (0 + 0) + (Y.length : Int)) ≤ 400)) (.chk (Nat.beq Y.length Y.length) (.chk (decide (okW Y)) (.chk (eqSt (sC (pY Y Y.length) .nilslice 0 .nilslice 0 0 []) (sC (pY Y Y.length) .nilslice 0 .nilslice 0 0 [])) (.chk (eqSt (sC (pY Y Y.length) .nilslice 1 (.vec 1 Y.length) Y.length 0 []) (sC (pY Y Y.length) .nilslice 1 (.vec 1 Y.length) Y.length 0 [])) (.chk c (.ret (clV (.vec 2 Y.length)) [oSh .nilslice (.vec 1 Y.length), vC Y, vA L])))))) (.ret clE [oSh .nilslice (.vec 1 Y.length), vC Y])) := by unfold Comes; kernel_rfl
open Classical in
theorem cl_3 (X Y L L2 : List (List CV)) (k : Nat) (c : Bool) : Comes tCk (lvC (eC3 X Y L L2 k c)) 20 [bkW] [oSh (.vec 1 X.length) (.vec 2 Y.length), vC X, vC Y]
  (.br (decide (w64 (w64 (0 + (X.length : Int)) + (Y.length : Int)) ≤ 400)) (.chk (Nat.beq X.length X.length) (.chk (decide (okW X)) (.chk (Nat.beq Y.length Y.length) (.chk (decide (okW Y)) (.chk (eqSt (sC (pXY X Y X.length Y.length) .nilslice 0 (.vec 1 X.length) X.length 0 []) (sC (pXY X Y X.length Y.length) .nilslice 0 (.vec 1 X.length) X.length 0 [])) (.chk c (.chk (eqSt (sC (pXY X Y X.length Y.length) (.vec 3 X.length) 1 (.vec 2 Y.length) Y.length 0 [some (vA L)]) (sC (pXY X Y X.length Y.length) (.vec 3 X.length) 1 (.vec 2 Y.length) Y.length 0 [some (vA L)])) (.chk c (.ret (clV (.vec 3 k)) [oSh (.vec 1 X.length) (.vec 2 Y.length), vC X, vC Y, vA L2]))))))))) (.ret clE [oSh (.vec 1 X.length) (.vec 2 Y.length), vC X, vC Y])) := by unfold Comes; kernel_rfl
end Go.Proofs.YtphhepnldndbhaaGreatDoor

/- Layer 14: the places of a workbook's cells (book.Cells): what it comes to. -/
set_option linter.unusedVariables false
set_option linter.unusedSimpArgs false
set_option linter.unusedSectionVars false
namespace Go.Proofs.YtphhepnldndbhaaGreatDoor
open Go Sx
/-- A workbook of two sheets, as objects. -/
def bkP : List (List CV) → List (List CV) → List PObj
  | [], [] => [oSh .nilslice .nilslice]
  | X, [] => [oSh (.vec 1 X.length) .nilslice, vC X]
  | [], Y => [oSh .nilslice (.vec 1 Y.length), vC Y]
  | X, Y => [oSh (.vec 1 X.length) (.vec 2 Y.length), vC X, vC Y]
/-- What its cells' places are. -/
def clL (X Y : List (List CV)) : List (List CV) := colL 0 X X.length ++ colL 1 Y Y.length
def okBk (X Y : List (List CV)) : Prop := okW X ∧ okW Y ∧ X.length + Y.length ≤ 400
def clR (n : Nat) : List (List CV) → AV
  | [] => .nilslice
  | L => .vec n L.length
def clO : List (List CV) → List PObj
  | [] => []
  | L => [vA L]
theorem cl_pos {L : List (List CV)} {n : Nat} (h : 0 < L.length) : clR n L = .vec n L.length ∧ clO L = [vA L] := by
  cases L with
  | nil => exact absurd h (Nat.lt_irrefl _)
  | cons x L => exact ⟨rfl, rfl⟩
theorem lvC_ok {e : Nat → PState → LAns} (h : ∀ K t, LAnsOK Tryz.prog loopC K t (e K t)) : LvOK Tryz.prog (lvC e) := lvOf_ok Tryz.func20 fun x hx id en hid he => by
  obtain ⟨rfl, rfl⟩ := oneL_some he
  have e2 : loopBodies (bodyOf Tryz.f20) = [loopC1, loopC] := by kernel_rfl
  rw [e2] at hx
  rcases List.mem_cons.1 hx with rfl | hx
  · have h9 : (headReg loopC1 == some 9) = false := by kernel_rfl
    exact absurd hid (fun e => by rw [e] at h9; exact absurd h9 (by decide))
  · obtain rfl := List.mem_singleton.1 hx
    exact h
open Classical in
theorem cells_meets {X Y : List (List CV)} (h : okBk X Y) : Meets Tryz.prog 20 [bkW] ((bkP X Y).map PObj.toA) (clV (clR (bkP X Y).length (clL X Y))) ((bkP X Y ++ clO (clL X Y)).map PObj.toA) := by
  obtain ⟨hX, hY, hs⟩ := h
  have hw : ∀ {n : Nat}, n ≤ 400 → w64 (n : Int) = (n : Int) := fun hn => w64_of (inI_iff.2 ⟨by omega, by omega⟩)
  cases X with
  | nil => cases Y with
    | nil => exact meets_ent (pre := [oSh .nilslice .nilslice]) (post := [oSh .nilslice .nilslice]) tCk_ok host cl_0 nolv_ok
    | cons y Y =>
      have hn : (y :: Y).length ≤ 400 := hY.1
      have e : clL [] (y :: Y) = colL 1 (y :: Y) (y :: Y).length := by show [] ++ _ = _; rw [List.nil_append]
      have el := colL_len 1 (y :: Y) (y :: Y).length
      have er : clR (bkP [] (y :: Y)).length (clL [] (y :: Y)) = .vec 2 (y :: Y).length := by
        rw [e, (cl_pos (by rw [el]; exact Nat.succ_pos _)).1, el]; rfl
      have eo : clO (clL [] (y :: Y)) = [vA (colL 1 (y :: Y) (y :: Y).length)] := by rw [e, (cl_pos (n := 0) (by rw [el]; exact Nat.succ_pos _)).2]
      rw [er, eo]
      have key := cl_2 (y :: Y) (colL 1 (y :: Y) (y :: Y).length) true
      refine meets_ent (pre := bkP [] (y :: Y)) (post := bkP [] (y :: Y) ++ [vA (colL 1 (y :: Y) (y :: Y).length)]) tCk_ok host (key.trans ?_) (lvC_ok fun K t => ?_)
      · rw [brT (decide_eq_true (by
          rw [show w64 (0 + 0) = 0 from rfl, Int.zero_add, hw hn]; omega)), chkT (Nat.beq_refl _), chkT (decide_eq_true hY), chkT (eqSt_refl _), chkT (eqSt_refl _), chkT rfl]; rfl
      · unfold eC2
        split
        · exact eAt_ok (a := .out (.exit 2) _) (tri_z (rYz _ _)) K t
        · exact eAt_ok (a := .chk true (.out (.exit 2) _)) ⟨fun _ => loopCB (by simp only [List.length_cons]; omega) hn, fun _ => trivial⟩ K t
  | cons x X => cases Y with
    | nil =>
      have hn : (x :: X).length ≤ 400 := hX.1
      have e : clL (x :: X) [] = colL 0 (x :: X) (x :: X).length := by show _ ++ [] = _; rw [List.append_nil]
      have el := colL_len 0 (x :: X) (x :: X).length
      have er : clR (bkP (x :: X) []).length (clL (x :: X) []) = .vec 2 (x :: X).length := by
        rw [e, (cl_pos (by rw [el]; exact Nat.succ_pos _)).1, el]; rfl
      have eo : clO (clL (x :: X) []) = [vA (colL 0 (x :: X) (x :: X).length)] := by rw [e, (cl_pos (n := 0) (by rw [el]; exact Nat.succ_pos _)).2]
      rw [er, eo]
      have key := cl_1 (x :: X) (colL 0 (x :: X) (x :: X).length) true
      refine meets_ent (pre := bkP (x :: X) []) (post := bkP (x :: X) [] ++ [vA (colL 0 (x :: X) (x :: X).length)]) tCk_ok host (key.trans ?_) (lvC_ok fun K t => ?_)
      · rw [brT (decide_eq_true (by
          rw [Int.zero_add, hw hn, Int.add_zero, hw hn]; omega)), chkT (Nat.beq_refl _), chkT (decide_eq_true hX), chkT (eqSt_refl _), chkT rfl, chkT (eqSt_refl _)]; rfl
      · unfold eC1
        split
        · exact eAt_ok (a := .out (.exit 2) _) (tri_z (rAz _ _ _ _)) K t
        · exact eAt_ok (a := .chk true (.out (.exit 2) _)) ⟨fun _ => loopCA (by simp only [List.length_cons]; omega) hn, fun _ => trivial⟩ K t
    | cons y Y =>
      have hn : (x :: X).length ≤ 400 := hX.1
      have hm : (y :: Y).length ≤ 400 := hY.1
      have el := colL_len 0 (x :: X) (x :: X).length
      have er : clR (bkP (x :: X) (y :: Y)).length (clL (x :: X) (y :: Y)) = .vec 3 (clL (x :: X) (y :: Y)).length := (cl_pos (by unfold clL; rw [List.length_append, el]; simp only [List.length_cons]; omega)).1
      have eo : clO (clL (x :: X) (y :: Y)) = [vA (clL (x :: X) (y :: Y))] := (cl_pos (n := 0) (by unfold clL; rw [List.length_append, el]; simp only [List.length_cons]; omega)).2
      rw [er, eo]
      have key := cl_3 (x :: X) (y :: Y) (colL 0 (x :: X) (x :: X).length) (clL (x :: X) (y :: Y)) (clL (x :: X) (y :: Y)).length true
      refine meets_ent (pre := bkP (x :: X) (y :: Y)) (post := bkP (x :: X) (y :: Y) ++ [vA (clL (x :: X) (y :: Y))]) tCk_ok host (key.trans ?_) (lvC_ok fun K t => ?_)
      · rw [brT (decide_eq_true (by
          rw [Int.zero_add, hw hn, show (((x :: X).length : Nat) : Int) + ((y :: Y).length : Nat) = (((x :: X).length + (y :: Y).length : Nat) : Int) by omega, hw hs]; omega)), chkT (Nat.beq_refl _), chkT (decide_eq_true hX), chkT (Nat.beq_refl _), chkT (decide_eq_true hY), chkT (eqSt_refl _), chkT rfl, chkT (eqSt_refl _), chkT rfl]; rfl
      · unfold eC3
        split
        · exact eAt_ok (a := .chk true (.out (.exit 2) _)) ⟨fun _ => loopCC (by simp only [List.length_cons]; omega) hn, fun _ => trivial⟩ K t
        · have kd := loopCD (X := x :: X) (Y := y :: Y) (L := colL 0 (x :: X) (x :: X).length) (p := (x :: X).length) (q := (y :: Y).length) (s := 1) (by rw [el]; exact hn) hm
          have eL : colL 0 (x :: X) (x :: X).length ++ colL 1 (y :: Y) (y :: Y).length = clL (x :: X) (y :: Y) := rfl
          rw [eL, el] at kd
          exact eAt_ok (a := .chk true (.out (.exit 2) _)) ⟨fun _ => kd, fun _ => trivial⟩ K t
end Go.Proofs.YtphhepnldndbhaaGreatDoor

/- Layer 14: spills are right (spill.areRight). -/
set_option linter.unusedVariables false
set_option linter.unusedSimpArgs false
set_option linter.unusedSectionVars false
namespace Go.Proofs.YtphhepnldndbhaaGreatDoor
open Go Sx
noncomputable abbrev loopR : Code := (loopBodies (bodyOf Tryz.f27)).headD .skip
abbrev oM (ks : List (List Int)) : PObj := .raw (.mapS 3 ks)
def tAr2 : Tab := [(46, eCmpL)]
theorem tAr2_ok : TabOK Tryz.prog tAr2 := .cons eCmpL_ok .nil
section
variable (L : List (List CV)) (ks : List (List Int)) (n : Nat) (i : Int)
def sR : PState := ⟨some (.vec 0 n) :: some (.mapp 1) :: nn 5 ++ (some (.vec 0 n) :: some (.int .i64 (n : Int)) :: some (.int .i64 i) :: nn 42), some (vS L) :: some (oM ks) :: nn 64⟩
def sRX : PState := ⟨nn 52, some (vS L) :: some (oM ks) :: nn 64⟩
def sRF : PState := ⟨nn 4 ++ (some (.bool false) :: nn 47), some (vS L) :: some (oM ks) :: nn 64⟩
abbrev kR : Nat → Bool := fun n => hasN [0, 1, 7, 8, 9] n
abbrev kRX : Nat → Bool := fun n => hasN [4] n
def ckS1 : List Bool := [ixN i n, inR i L]
def ckS2 : List Bool := [ixN (w64 (i - 1)) n, inR (w64 (i - 1)) L, cmP (c0 (Sx.rowAt L (w64 (i - 1)).toNat)) (c1 (Sx.rowAt L (w64 (i - 1)).toNat)) (c2 (Sx.rowAt L (w64 (i - 1)).toNat)) (c0 (Sx.rowAt L i.toNat)) (c1 (Sx.rowAt L i.toNat)) (c2 (Sx.rowAt L i.toNat)) == -1]
theorem rR : code (ent Tryz.prog tAr2 nolv 64 1 20) Tryz.prog {} 2 64 1 loopR (sR L ks n i) (endK 2 64 kR kRX) = bcond (decide (i < (n : Int))) (chks (bcond (decide (c3 (Sx.rowAt L i.toNat) < 1)) (some (.ret, sRF L ks)) (bcond (decide (c4 (Sx.rowAt L i.toNat) < 1)) (some (.ret, sRF L ks)) (chks (bcond (decide (c4 (Sx.rowAt L i.toNat) > w64 (Int.tdiv 400 (c3 (Sx.rowAt L i.toNat))))) (some (.ret, sRF L ks)) (bcond (!memK ks [c0 (Sx.rowAt L i.toNat), c1 (Sx.rowAt L i.toNat), c2 (Sx.rowAt L i.toNat)]) (some (.ret, sRF L ks)) (bcond (decide (i > 0)) (chks (some (.normal, sR L ks n (up1 i))) (ckS2 L n i)) (some (.normal, sR L ks n (up1 i)))))) [c3 (Sx.rowAt L i.toNat) != 0]))) (ckS1 L n i)) (some (.exit 0, sRX L ks)) := by kernel_rfl
end
/-- Spills that are right: in order, each of a cell, none too large. -/
def okS (L : List (List CV)) (ks : List (List Int)) : Prop := L.length ≤ 400 ∧ ∀ j, j < L.length → (1 ≤ c3 (Sx.rowAt L j) ∧ c3 (Sx.rowAt L j) ≤ 20) ∧ (1 ≤ c4 (Sx.rowAt L j) ∧ c4 (Sx.rowAt L j) ≤ 20) ∧ memK ks [c0 (Sx.rowAt L j), c1 (Sx.rowAt L j), c2 (Sx.rowAt L j)] = true ∧ ∀ k, j = k + 1 → cmP (c0 (Sx.rowAt L k)) (c1 (Sx.rowAt L k)) (c2 (Sx.rowAt L k)) (c0 (Sx.rowAt L j)) (c1 (Sx.rowAt L j)) (c2 (Sx.rowAt L j)) = -1
theorem div20 {h w : Int} (h1 : 1 ≤ h) (h2 : h ≤ 20) (w2 : w ≤ 20) : ¬ w > w64 (Int.tdiv 400 h) := by
  have e : h = 1 ∨ h = 2 ∨ h = 3 ∨ h = 4 ∨ h = 5 ∨ h = 6 ∨ h = 7 ∨ h = 8 ∨ h = 9 ∨ h = 10 ∨ h = 11 ∨ h = 12 ∨ h = 13 ∨ h = 14 ∨ h = 15 ∨ h = 16 ∨ h = 17 ∨ h = 18 ∨ h = 19 ∨ h = 20 := by omega
  have key : (20 : Int) ≤ w64 (Int.tdiv 400 h) := by
    rcases e with rfl | rfl | rfl | rfl | rfl | rfl | rfl | rfl | rfl | rfl | rfl | rfl | rfl | rfl | rfl | rfl | rfl | rfl | rfl | rfl <;> decide
  omega
theorem loopRR {L : List (List CV)} {ks : List (List Int)} (h : okS L ks) : Tri Tryz.prog (.loop loopR) (sR L ks L.length 0).toA (.exit 0) (sRX L ks).toA 2 := by
  obtain ⟨hl, h⟩ := h
  have key := loop_rounds (ent_sound (T := tAr2) tAr2_ok host nolv_ok (NF := 64) (m := 1) 20) (NF := 64) (m := 1) (x := loopR) (K := 2) loops_none kR kRX (ι := { j : Nat // j ≤ L.length }) (fun j => sR L ks L.length (j.1 : Int)) (fun j => L.length - j.1) (fun _ => (.exit 0, sRX L ks)) ?_ (fun _ => fun e => by cases e) ⟨0, Nat.zero_le _⟩
  · exact key
  rintro ⟨j, hj⟩
  simp only
  by_cases hlt : j < L.length
  · left
    refine ⟨⟨j + 1, hlt⟩, by simp only; omega, trivial, ?_⟩
    obtain ⟨⟨a1, a2⟩, ⟨b1, b2⟩, hm, hc⟩ := h j hlt
    rw [rR, bcT (decide_eq_true (by omega)), chks_true (show ∀ b ∈ ckS1 L L.length (j : Int), b = true from all2 (ixN_nat hlt) (inR_nat hlt)), up1_nat (by omega), Int.toNat_natCast,
      bcF (decide_eq_false (by omega)), bcF (decide_eq_false (by omega)), chks_true (all1 (bne_iff_ne.2 (by omega))), bcF (decide_eq_false (div20 a1 a2 b2)), hm, bcF (b := !true) rfl]
    cases j with
    | zero => rw [bcF (decide_eq_false (by omega))]
    | succ k =>
      have hw : w64 (((k + 1 : Nat) : Int) - 1) = (k : Int) := by unfold w64; rw [i64_in (by omega) (by omega)]; omega
      rw [bcT (decide_eq_true (by omega)), chks_true (by
        intro b hb
        unfold ckS2 at hb
        rw [hw, Int.toNat_natCast, Int.toNat_natCast] at hb
        simp only [List.mem_cons, List.not_mem_nil, or_false] at hb
        rcases hb with rfl | rfl | rfl
        · exact ixN_nat (by omega)
        · exact inR_nat (by omega)
        · rw [hc k rfl]; rfl)]
  · right
    rw [rR, bcF (decide_eq_false (by omega))]
noncomputable def lvR (L : List (List CV)) (ks : List (List Int)) (c : Bool) : FuncId → Lv := lvOf 27 (fun _ => some [0, 1, 7, 8, 9]) (oneL 2 (eAt 2 (sR L ks L.length 0) (.chk c (.out (.exit 0) (sRX L ks)))))
theorem lvR_ok {L : List (List CV)} {ks : List (List Int)} (h : okS L ks) : LvOK Tryz.prog (lvR L ks true) := lvOne_ok (x := loopR) Tryz.func27 (by kernel_rfl) fun K t => eAt_ok (a := .chk true (.out (.exit 0) (sRX L ks))) ⟨fun _ => loopRR h, fun _ => trivial⟩ K t
theorem ar_nil (ks : List (List Int)) : Comes [] nolv 27 [.nilslice, .mapp 0] [oM ks] (.ret (.bool true) [oM ks]) := by unfold Comes; kernel_rfl
theorem ar_vec (L : List (List CV)) (ks : List (List Int)) (c : Bool) : Comes tAr2 (lvR L ks c) 27 [.vec 0 L.length, .mapp 1] [vS L, oM ks] (.chk (eqSt (sR L ks L.length 0) (sR L ks L.length 0)) (.chk c (.ret (.bool true) [vS L, oM ks]))) := by unfold Comes; kernel_rfl
open Classical in
noncomputable def eArt : Ent := fun args pre => match args, pre with
  | [.nilslice, .mapp j], [.raw (.mapS n ks)] => .chk (Nat.beq j 0 && Nat.beq n 3) (.ret (.bool true) [.raw (.mapS n ks)])
  | [.vec j p, .mapp j'], [.vecR sh L ty, .raw (.mapS n ks)] => .chk (Nat.beq j 0 && shEq sh shS && Nat.beq ty 27 && Nat.beq j' 1 && Nat.beq n 3) (.chk (Nat.beq p L.length) (.chk (decide (okS L ks)) (.ret (.bool true) [.vecR sh L ty, .raw (.mapS n ks)])))
  | _, _ => .fail
open Classical in
theorem eArt_ok : EntOK Tryz.prog 27 eArt := fun args pre => by
  unfold eArt
  split
  · rename_i j n ks
    refine ⟨fun g0 => ?_, fun _ => trivial⟩
    simp only [Bool.and_eq_true, beqT] at g0
    obtain ⟨rfl, rfl⟩ := g0
    exact meets_ent (pre := [oM ks]) (post := [oM ks]) .nil host (ar_nil ks) nolv_ok
  · rename_i j p j' sh L ty n ks
    refine ⟨fun g0 => ⟨fun g1 => ⟨fun g2 => ?_, fun _ => trivial⟩, fun _ => trivial⟩, fun _ => trivial⟩
    simp only [Bool.and_eq_true, beqT] at g0
    obtain ⟨⟨⟨⟨rfl, g⟩, rfl⟩, rfl⟩, rfl⟩ := g0
    obtain rfl := shEq_of g
    obtain rfl := beqT.1 g1
    refine meets_ent (pre := [vS L, oM ks]) (post := [vS L, oM ks]) tAr2_ok host ((ar_vec L ks true).trans ?_) (lvR_ok (of_decide_eq_true g2))
    rw [chkT (eqSt_refl _), chkT rfl]; rfl
  · trivial
end Go.Proofs.YtphhepnldndbhaaGreatDoor

/- Layer 14: the places of an area, as spill.Place goes over them: rounds. -/
set_option linter.unusedVariables false
set_option linter.unusedSimpArgs false
set_option linter.unusedSectionVars false
namespace Go.Proofs.YtphhepnldndbhaaGreatDoor
open Go Sx
def rfs : Code → List (List Tmp × Code × Code)
  | .seq a b => rfs a ++ rfs b
  | .cond _ a b => rfs a ++ rfs b
  | .block _ c => rfs c
  | .loop c => rfs c
  | .scope c => rfs c
  | .rangeFunc _ ps asg body => [(ps.toList, asg, body)]
  | _ => []
noncomputable abbrev rf1 : List Tmp × Code × Code := (rfs (bodyOf Tryz.f14)).headD ([], .skip, .skip)
noncomputable abbrev rf2 : List Tmp × Code × Code := ((rfs (bodyOf Tryz.f14)).drop 1).headD ([], .skip, .skip)
abbrev oA3 (s r c : Int) : PObj := .raw (.cells [.int .i64 s, .int .i64 r, .int .i64 c] 25)
abbrev oA5 (s r c h w : Int) : PObj := .raw (.cells [.int .i64 s, .int .i64 r, .int .i64 c, .int .i64 h, .int .i64 w] 51)
abbrev oS5 (s r c h w : Int) : PObj := .raw (.cells [.int .i64 s, .int .i64 r, .int .i64 c, .int .i64 h, .int .i64 w] 27)
noncomputable abbrev oL1 (st : LSt) : PObj := .raw (.loopR st 86 [9, 13, 15] [.ptr 2 0, .ptr 3 0, .ptr 4 0] rf1.1 rf1.2.1 rf1.2.2)
noncomputable abbrev oL2 (st : LSt) : PObj := .raw (.loopR st 86 [9] [.ptr 2 0] rf2.1 rf2.2.1 rf2.2.2)
abbrev oP1 (v : AV) (t : Nat) : PObj := .raw (.cells [v] t)
noncomputable abbrev loopN1 : Code := (loopBodies (bodyOf Tryz.f47)).headD .skip
noncomputable abbrev loopN2 : Code := ((loopBodies (bodyOf Tryz.f47)).drop 1).headD .skip
abbrev aY : List (Option AV) := [some (.func yF [.ptr 0 0] []), some (.ptr 1 0)]
section
variable (M : List (Option PObj)) (h w i j : Int)
/-- The outer loop, the inner one; behind it; left early. -/
def sN (i : Int) : PState := ⟨aY ++ (nn 4 ++ (some (.int .i64 h) :: some (.int .i64 i) :: nn 23)), M ++ nn 64⟩
def sNi (i j : Int) : PState := ⟨aY ++ (none :: some (.int .i64 i) :: nn 2 ++ (some (.int .i64 h) :: some (.int .i64 i) :: nn 3 ++ (some (.int .i64 w) :: some (.int .i64 j) :: nn 18))), M ++ nn 64⟩
def sNX : PState := ⟨nn 31, M ++ nn 64⟩
end
abbrev kN1 : Nat → Bool := fun n => hasN [0, 1, 6, 7] n
abbrev kN2 : Nat → Bool := fun n => hasN [0, 1, 6, 7, 3, 11, 12] n
abbrev kNX : Nat → Bool := fun n => hasN [] n
section
variable (ks : List (List Int)) (A : List (List CV)) (k : Nat) (s r c h w i j s' r' c' h' w' : Int)
noncomputable def m1n (st : LSt) : List (Option PObj) := [some (oL1 st), some (oA5 s r c h w), some (oP1 (.mapp 5) 71), some (oP1 .nilslice 22), some (oS5 s' r' c' h' w'), some (oM ks)]
noncomputable def m1v (st : LSt) : List (Option PObj) := [some (oL1 st), some (oA5 s r c h w), some (oP1 (.mapp 5) 71), some (oP1 (.vec 6 k) 22), some (oS5 s' r' c' h' w'), some (oM ks), some (vA A)]
noncomputable def m1w (st : LSt) : List (Option PObj) := [some (oL1 st), some (oA5 s r c h w), some (oP1 (.mapp 5) 71), some (oP1 (.vec 7 k) 22), some (oS5 s' r' c' h' w'), some (oM ks), some (.raw .dead), some (vA A)]
noncomputable def m2 (st : LSt) : List (Option PObj) := [some (oL2 st), some (oA5 s r c h w), some (oP1 (.mapp 3) 71), some (oM ks)]
def keyI : List Int := [s, w64 (r + i), w64 (c + j)]
def ownB : Bool := s == s' && (w64 (r + i) == r' && (w64 (c + j) == c' && true))
abbrev stE : LSt := LSt.of (.exit 3)
theorem n2n : code (ent Tryz.prog [] nolv 64 1 20) Tryz.prog {} 6 64 1 loopN2 (sNi (m1n ks s r c h w s' r' c' h' w' .ready) h w i j) (endK 6 64 kN2 kN1)
  = bcond (decide (j < w)) (bcond (memK ks (keyI s r c i j)) (bcond (!ownB s r c i j s' r' c') (some (.ret, sN (m1v ks [mkA s' r' c'] 1 s r c h w s' r' c' h' w' stE) h i)) (some (.normal, sNi (m1n ks s r c h w s' r' c' h' w' .ready) h w i (up1 j)))) (some (.normal, sNi (m1n ks s r c h w s' r' c' h' w' .ready) h w i (up1 j)))) (some (.exit 2, sN (m1n ks s r c h w s' r' c' h' w' .ready) h i)) := by kernel_rfl
theorem n2v : code (ent Tryz.prog [] nolv 64 1 20) Tryz.prog {} 7 64 1 loopN2 (sNi (m1v ks A k s r c h w s' r' c' h' w' .ready) h w i j) (endK 7 64 kN2 kN1)
  = bcond (decide (j < w)) (bcond (memK ks (keyI s r c i j)) (bcond (!ownB s r c i j s' r' c') (chks (some (.ret, sN (m1w ks (A ++ [mkA s' r' c']) (k + 1) s r c h w s' r' c' h' w' stE) h i)) [decide ((vA A).len = k * 3) && roomB (k + 1) 24]) (some (.normal, sNi (m1v ks A k s r c h w s' r' c' h' w' .ready) h w i (up1 j)))) (some (.normal, sNi (m1v ks A k s r c h w s' r' c' h' w' .ready) h w i (up1 j)))) (some (.exit 2, sN (m1v ks A k s r c h w s' r' c' h' w' .ready) h i)) := by kernel_rfl
theorem n2m : code (ent Tryz.prog [] nolv 64 1 20) Tryz.prog {} 4 64 1 loopN2 (sNi (m2 ks s r c h w .ready) h w i j) (endK 4 64 kN2 kN1)
  = bcond (decide (j < w)) (some (.normal, sNi (m2 (addK ks (keyI s r c i j)) s r c h w .ready) h w i (up1 j))) (some (.exit 2, sN (m2 ks s r c h w .ready) h i)) := by kernel_rfl
end
/-- What the inner loop comes to: left early, or not. -/
def outI (c b : Bool) (F E : PState) : LAns := .chk c (.br b (.out .ret F) (.out (.exit 2) E))
noncomputable def lvI (K : Nat) (S : PState) (x : LAns) : FuncId → Lv := lvOf 47 (fun i => if i = 1 then some [0, 1, 6, 7] else some [0, 1, 6, 7, 3, 11, 12]) (oneL 4 (eAt K S x))
section
variable (ks ks' : List (List Int)) (A A' : List (List CV)) (k k' : Nat) (s r c h w i s' r' c' h' w' : Int) (ok b : Bool)
theorem n1n : code (ent Tryz.prog [] (lvI 6 (sNi (m1n ks s r c h w s' r' c' h' w' .ready) h w i 0) (outI ok b (sN (m1v ks A 1 s r c h w s' r' c' h' w' stE) h i) (sN (m1n ks s r c h w s' r' c' h' w' .ready) h i))) 64 1 20) Tryz.prog (lvI 6 (sNi (m1n ks s r c h w s' r' c' h' w' .ready) h w i 0) (outI ok b (sN (m1v ks A 1 s r c h w s' r' c' h' w' stE) h i) (sN (m1n ks s r c h w s' r' c' h' w' .ready) h i)) 47) 6 64 1 loopN1 (sN (m1n ks s r c h w s' r' c' h' w' .ready) h i) (endK 6 64 kN1 kNX)
  = bcond (decide (i < h)) (chks (bcond b (some (.ret, sNX (m1v ks A 1 s r c h w s' r' c' h' w' stE))) (some (.normal, sN (m1n ks s r c h w s' r' c' h' w' .ready) h (up1 i)))) [eqSt (sNi (m1n ks s r c h w s' r' c' h' w' .ready) h w i 0) (sNi (m1n ks s r c h w s' r' c' h' w' .ready) h w i 0), ok]) (some (.exit 0, sNX (m1n ks s r c h w s' r' c' h' w' .ready))) := by kernel_rfl
theorem n1v : code (ent Tryz.prog [] (lvI 7 (sNi (m1v ks A k s r c h w s' r' c' h' w' .ready) h w i 0) (outI ok b (sN (m1w ks A' k' s r c h w s' r' c' h' w' stE) h i) (sN (m1v ks A k s r c h w s' r' c' h' w' .ready) h i))) 64 1 20) Tryz.prog (lvI 7 (sNi (m1v ks A k s r c h w s' r' c' h' w' .ready) h w i 0) (outI ok b (sN (m1w ks A' k' s r c h w s' r' c' h' w' stE) h i) (sN (m1v ks A k s r c h w s' r' c' h' w' .ready) h i)) 47) 7 64 1 loopN1 (sN (m1v ks A k s r c h w s' r' c' h' w' .ready) h i) (endK 7 64 kN1 kNX)
  = bcond (decide (i < h)) (chks (bcond b (some (.ret, sNX (m1w ks A' k' s r c h w s' r' c' h' w' stE))) (some (.normal, sN (m1v ks A k s r c h w s' r' c' h' w' .ready) h (up1 i)))) [eqSt (sNi (m1v ks A k s r c h w s' r' c' h' w' .ready) h w i 0) (sNi (m1v ks A k s r c h w s' r' c' h' w' .ready) h w i 0), ok]) (some (.exit 0, sNX (m1v ks A k s r c h w s' r' c' h' w' .ready))) := by kernel_rfl
theorem n1m : code (ent Tryz.prog [] (lvI 4 (sNi (m2 ks s r c h w .ready) h w i 0) (.chk ok (.out (.exit 2) (sN (m2 ks' s r c h w .ready) h i)))) 64 1 20) Tryz.prog (lvI 4 (sNi (m2 ks s r c h w .ready) h w i 0) (.chk ok (.out (.exit 2) (sN (m2 ks' s r c h w .ready) h i))) 47) 4 64 1 loopN1 (sN (m2 ks s r c h w .ready) h i) (endK 4 64 kN1 kNX)
  = bcond (decide (i < h)) (chks (some (.normal, sN (m2 ks' s r c h w .ready) h (up1 i))) [eqSt (sNi (m2 ks s r c h w .ready) h w i 0) (sNi (m2 ks s r c h w .ready) h w i 0), ok]) (some (.exit 0, sNX (m2 ks s r c h w .ready))) := by kernel_rfl
end
end Go.Proofs.YtphhepnldndbhaaGreatDoor

/- Layer 14: the places of an area, as spill.Place goes over them: loops. -/
set_option linter.unusedVariables false
set_option linter.unusedSimpArgs false
set_option linter.unusedSectionVars false
namespace Go.Proofs.YtphhepnldndbhaaGreatDoor
open Go Sx
/-- Is one of the first so many so? -/
def anyN (f : Nat → Bool) : Nat → Bool
  | 0 => false
  | n + 1 => anyN f n || f n
theorem anyN_none {f : Nat → Bool} : ∀ {n : Nat}, anyN f n = false → ∀ j, j < n → f j = false
  | 0, _, j, hj => absurd hj (Nat.not_lt_zero j)
  | n + 1, h, j, hj => by
    simp only [anyN, Bool.or_eq_false_iff] at h
    by_cases e : j = n
    · rw [e]; exact h.2
    · exact anyN_none h.1 j (by omega)
theorem anyN_first {f : Nat → Bool} : ∀ {n : Nat}, anyN f n = true → ∃ j, j < n ∧ f j = true ∧ ∀ i, i < j → f i = false
  | 0, h => by cases h
  | n + 1, h => by
    by_cases e : anyN f n = true
    · obtain ⟨j, h1, h2, h3⟩ := anyN_first e
      exact ⟨j, by omega, h2, h3⟩
    · have e := Bool.eq_false_iff.2 e
      simp only [anyN, e, Bool.false_or] at h
      exact ⟨n, by omega, h, fun i hi => anyN_none e i hi⟩
theorem tri_any {x : Code} {K W : Nat} (hit : Nat → Bool) (S : Nat → AState) {exF exE : Ex} {F E : AState} (hF : exF ≠ .normal) (hE : exE ≠ .normal)
    (next : ∀ j, j < W → hit j = false → Tri Tryz.prog x (S j) .normal (S (j + 1)) K) (hits : ∀ j, j < W → hit j = true → Tri Tryz.prog x (S j) exF F K) (last : Tri Tryz.prog x (S W) exE E K) :
    (anyN hit W = true → Tri Tryz.prog (.loop x) (S 0) exF F K) ∧ (anyN hit W = false → Tri Tryz.prog (.loop x) (S 0) exE E K) := by
  refine ⟨fun h => ?_, fun h => ?_⟩
  · obtain ⟨j, hj, h1, h2⟩ := anyN_first h
    exact tri_up S hF j (fun k hk => next k (by omega) (h2 k hk)) (hits j hj h1) 0 (Nat.zero_le _)
  · have h' := anyN_none h
    exact tri_up S hE W (fun k hk => next k hk (h' k hk)) last 0 (Nat.zero_le _)
theorem n_sound {T : Tab} (hT : TabOK Tryz.prog T) {K : Nat} {x : Code} {S S' : PState} {kn kx : Nat → Bool} {ex : Ex} (h : code (ent Tryz.prog T nolv 64 1 20) Tryz.prog {} K 64 1 x S (endK K 64 kn kx) = some (ex, S')) : Tri Tryz.prog x S.toA ex S'.toA K :=
  round_sound (ent_sound hT host nolv_ok (NF := 64) (m := 1) 20) loops_none h
theorem lvI_ok {K : Nat} {S : PState} {x : LAns} (h : LAnsOK Tryz.prog loopN2 K S x) : LvOK Tryz.prog (lvI K S x) := lvOf_ok Tryz.func47 fun y hy id en hid he => by
  obtain ⟨rfl, rfl⟩ := oneL_some he
  have e2 : loopBodies (bodyOf Tryz.f47) = [loopN1, loopN2] := by kernel_rfl
  rw [e2] at hy
  rcases List.mem_cons.1 hy with rfl | hy
  · have h9 : (headReg loopN1 == some 4) = false := by kernel_rfl
    exact absurd hid (fun e => by rw [e] at h9; exact absurd h9 (by decide))
  · obtain rfl := List.mem_singleton.1 hy
    exact fun K' t => eAt_ok h K' t
theorem loopsI {lv : FuncId → Lv} (hL : LvOK Tryz.prog lv) {K : Nat} : LoopsOK Tryz.prog (lv 47) K loopN1 := fun x hx id e hid he t => by
  have e1 : loopBodies loopN1 = [loopN2] := by kernel_rfl
  have e2 : loopBodies (bodyOf Tryz.f47) = [loopN1, loopN2] := by kernel_rfl
  rw [e1] at hx
  exact hL 47 Tryz.f47 (bodyOf Tryz.f47) Tryz.func47 (by kernel_rfl) K x (by rw [e2]; exact List.mem_cons_of_mem _ hx) id e hid he t
theorem i_sound {K : Nat} {S0 : PState} {x : LAns} (hx : LAnsOK Tryz.prog loopN2 K S0 x) {S S' : PState} {kn kx : Nat → Bool} {ex : Ex} (h : code (ent Tryz.prog [] (lvI K S0 x) 64 1 20) Tryz.prog (lvI K S0 x 47) K 64 1 loopN1 S (endK K 64 kn kx) = some (ex, S')) : Tri Tryz.prog loopN1 S.toA ex S'.toA K :=
  round_sound (ent_sound .nil host (lvI_ok hx) (NF := 64) (m := 1) 20) (loopsI (lvI_ok hx)) h
section
variable (ks : List (List Int)) (A : List (List CV)) (s r c : Int) (H W : Nat) (s' r' c' h' w' : Int)
/-- Is a place of the area taken, and not the spill's own? -/
def hitI (i j : Nat) : Bool := memK ks (keyI s r c (i : Int) (j : Int)) && !ownB s r c (i : Int) (j : Int) s' r' c'
def hitR (i : Nat) : Bool := anyN (hitI ks s r c s' r' c' i) W
def hitA : Bool := anyN (hitR ks s r c W s' r' c') H
theorem inner_n (hW : W ≤ 1000) (i : Nat) :
    (hitR ks s r c W s' r' c' i = true → Tri Tryz.prog (.loop loopN2) (sNi (m1n ks s r c (H : Int) (W : Int) s' r' c' h' w' .ready) (H : Int) (W : Int) (i : Int) 0).toA .ret (sN (m1v ks [mkA s' r' c'] 1 s r c (H : Int) (W : Int) s' r' c' h' w' stE) (H : Int) (i : Int)).toA 6) ∧
    (hitR ks s r c W s' r' c' i = false → Tri Tryz.prog (.loop loopN2) (sNi (m1n ks s r c (H : Int) (W : Int) s' r' c' h' w' .ready) (H : Int) (W : Int) (i : Int) 0).toA (.exit 2) (sN (m1n ks s r c (H : Int) (W : Int) s' r' c' h' w' .ready) (H : Int) (i : Int)).toA 6) := by
  refine tri_any (W := W) (hitI ks s r c s' r' c' i) (fun j => (sNi (m1n ks s r c (H : Int) (W : Int) s' r' c' h' w' .ready) (H : Int) (W : Int) (i : Int) (j : Int)).toA) (fun e => by cases e) (fun e => by cases e) (fun j hj hh => ?_) (fun j hj hh => ?_) ?_
  · refine n_sound (T := []) .nil ((n2n ks s r c (H : Int) (W : Int) (i : Int) (j : Int) s' r' c' h' w').trans ?_)
    rw [bcT (decide_eq_true (by omega)), up1_nat (by omega)]
    unfold hitI at hh
    cases hm : memK ks (keyI s r c (i : Int) (j : Int)) with
    | false => rfl
    | true =>
      rw [hm, Bool.true_and] at hh
      rw [hh]; rfl
  · refine n_sound (T := []) .nil ((n2n ks s r c (H : Int) (W : Int) (i : Int) (j : Int) s' r' c' h' w').trans ?_)
    unfold hitI at hh
    rw [Bool.and_eq_true] at hh
    rw [bcT (decide_eq_true (by omega)), bcT hh.1, bcT hh.2]
  · refine n_sound (T := []) .nil ((n2n ks s r c (H : Int) (W : Int) (i : Int) (W : Int) s' r' c' h' w').trans ?_)
    rw [bcF (decide_eq_false (by omega))]
theorem inner_v (hA : A.length ≤ 1000) (hW : W ≤ 1000) (i : Nat) :
    (hitR ks s r c W s' r' c' i = true → Tri Tryz.prog (.loop loopN2) (sNi (m1v ks A A.length s r c (H : Int) (W : Int) s' r' c' h' w' .ready) (H : Int) (W : Int) (i : Int) 0).toA .ret (sN (m1w ks (A ++ [mkA s' r' c']) (A.length + 1) s r c (H : Int) (W : Int) s' r' c' h' w' stE) (H : Int) (i : Int)).toA 7) ∧
    (hitR ks s r c W s' r' c' i = false → Tri Tryz.prog (.loop loopN2) (sNi (m1v ks A A.length s r c (H : Int) (W : Int) s' r' c' h' w' .ready) (H : Int) (W : Int) (i : Int) 0).toA (.exit 2) (sN (m1v ks A A.length s r c (H : Int) (W : Int) s' r' c' h' w' .ready) (H : Int) (i : Int)).toA 7) := by
  refine tri_any (W := W) (hitI ks s r c s' r' c' i) (fun j => (sNi (m1v ks A A.length s r c (H : Int) (W : Int) s' r' c' h' w' .ready) (H : Int) (W : Int) (i : Int) (j : Int)).toA) (fun e => by cases e) (fun e => by cases e) (fun j hj hh => ?_) (fun j hj hh => ?_) ?_
  · refine n_sound (T := []) .nil ((n2v ks A A.length s r c (H : Int) (W : Int) (i : Int) (j : Int) s' r' c' h' w').trans ?_)
    rw [bcT (decide_eq_true (by omega)), up1_nat (by omega)]
    unfold hitI at hh
    cases hm : memK ks (keyI s r c (i : Int) (j : Int)) with
    | false => rfl
    | true =>
      rw [hm, Bool.true_and] at hh
      rw [hh]; rfl
  · refine n_sound (T := []) .nil ((n2v ks A A.length s r c (H : Int) (W : Int) (i : Int) (j : Int) s' r' c' h' w').trans ?_)
    unfold hitI at hh
    rw [Bool.and_eq_true] at hh
    rw [bcT (decide_eq_true (by omega)), bcT hh.1, bcT hh.2, chks_true (all1 (by rw [decide_eq_true (show (vA A).len = A.length * 3 from rfl)]; unfold roomB; exact decide_eq_true ⟨by omega, by omega⟩))]
  · refine n_sound (T := []) .nil ((n2v ks A A.length s r c (H : Int) (W : Int) (i : Int) (W : Int) s' r' c' h' w').trans ?_)
    rw [bcF (decide_eq_false (by omega))]
/-- The places of one row more; of all rows. -/
def addR (i : Nat) : List (List Int) → Nat → List (List Int)
  | ks, 0 => ks
  | ks, j + 1 => addK (addR i ks j) (keyI s r c (i : Int) (j : Int))
def addA (W : Nat) : List (List Int) → Nat → List (List Int)
  | ks, 0 => ks
  | ks, i + 1 => addR s r c i (addA W ks i) W
theorem inner_m (hW : W ≤ 1000) (i : Nat) : Tri Tryz.prog (.loop loopN2) (sNi (m2 ks s r c (H : Int) (W : Int) .ready) (H : Int) (W : Int) (i : Int) 0).toA (.exit 2) (sN (m2 (addR s r c i ks W) s r c (H : Int) (W : Int) .ready) (H : Int) (i : Int)).toA 4 := by
  refine tri_up (body := loopN2) (fun j => (sNi (m2 (addR s r c i ks j) s r c (H : Int) (W : Int) .ready) (H : Int) (W : Int) (i : Int) (j : Int)).toA) (fun e => by cases e) W (fun j hj => ?_) ?_ 0 (Nat.zero_le _)
  · refine n_sound (T := []) .nil ((n2m _ s r c (H : Int) (W : Int) (i : Int) (j : Int)).trans ?_)
    rw [bcT (decide_eq_true (by omega)), up1_nat (by omega)]; rfl
  · refine n_sound (T := []) .nil ((n2m _ s r c (H : Int) (W : Int) (i : Int) (W : Int)).trans ?_)
    rw [bcF (decide_eq_false (by omega))]
theorem outer_n (hH : H ≤ 1000) (hW : W ≤ 1000) :
    (hitA ks s r c H W s' r' c' = true → Tri Tryz.prog (.loop loopN1) (sN (m1n ks s r c (H : Int) (W : Int) s' r' c' h' w' .ready) (H : Int) 0).toA .ret (sNX (m1v ks [mkA s' r' c'] 1 s r c (H : Int) (W : Int) s' r' c' h' w' stE)).toA 6) ∧
    (hitA ks s r c H W s' r' c' = false → Tri Tryz.prog (.loop loopN1) (sN (m1n ks s r c (H : Int) (W : Int) s' r' c' h' w' .ready) (H : Int) 0).toA (.exit 0) (sNX (m1n ks s r c (H : Int) (W : Int) s' r' c' h' w' .ready)).toA 6) := by
  have hx : ∀ i : Nat, LAnsOK Tryz.prog loopN2 6 (sNi (m1n ks s r c (H : Int) (W : Int) s' r' c' h' w' .ready) (H : Int) (W : Int) (i : Int) 0) (outI true (hitR ks s r c W s' r' c' i) (sN (m1v ks [mkA s' r' c'] 1 s r c (H : Int) (W : Int) s' r' c' h' w' stE) (H : Int) (i : Int)) (sN (m1n ks s r c (H : Int) (W : Int) s' r' c' h' w' .ready) (H : Int) (i : Int))) := fun i =>
    ⟨fun _ => ⟨fun h => (inner_n ks s r c H W s' r' c' h' w' hW i).1 h, fun h => (inner_n ks s r c H W s' r' c' h' w' hW i).2 h⟩, fun _ => trivial⟩
  have ck : ∀ i : Nat, ∀ b ∈ [eqSt (sNi (m1n ks s r c (H : Int) (W : Int) s' r' c' h' w' .ready) (H : Int) (W : Int) (i : Int) 0) (sNi (m1n ks s r c (H : Int) (W : Int) s' r' c' h' w' .ready) (H : Int) (W : Int) (i : Int) 0), true], b = true := fun i => all2 (eqSt_refl _) rfl
  refine tri_any (W := H) (hitR ks s r c W s' r' c') (fun i => (sN (m1n ks s r c (H : Int) (W : Int) s' r' c' h' w' .ready) (H : Int) (i : Int)).toA) (fun e => by cases e) (fun e => by cases e) (fun i hi hh => ?_) (fun i hi hh => ?_) ?_
  · refine i_sound (hx i) ((n1n ks [mkA s' r' c'] s r c (H : Int) (W : Int) (i : Int) s' r' c' h' w' true (hitR ks s r c W s' r' c' i)).trans ?_)
    rw [bcT (decide_eq_true (by omega)), chks_true (ck i), bcF hh, up1_nat (by omega)]
  · refine i_sound (hx i) ((n1n ks [mkA s' r' c'] s r c (H : Int) (W : Int) (i : Int) s' r' c' h' w' true (hitR ks s r c W s' r' c' i)).trans ?_)
    rw [bcT (decide_eq_true (by omega)), chks_true (ck i), bcT hh]
  · refine i_sound (hx H) ((n1n ks [mkA s' r' c'] s r c (H : Int) (W : Int) (H : Int) s' r' c' h' w' true (hitR ks s r c W s' r' c' H)).trans ?_)
    rw [bcF (decide_eq_false (by omega))]
theorem outer_v (hA : A.length ≤ 1000) (hH : H ≤ 1000) (hW : W ≤ 1000) :
    (hitA ks s r c H W s' r' c' = true → Tri Tryz.prog (.loop loopN1) (sN (m1v ks A A.length s r c (H : Int) (W : Int) s' r' c' h' w' .ready) (H : Int) 0).toA .ret (sNX (m1w ks (A ++ [mkA s' r' c']) (A.length + 1) s r c (H : Int) (W : Int) s' r' c' h' w' stE)).toA 7) ∧
    (hitA ks s r c H W s' r' c' = false → Tri Tryz.prog (.loop loopN1) (sN (m1v ks A A.length s r c (H : Int) (W : Int) s' r' c' h' w' .ready) (H : Int) 0).toA (.exit 0) (sNX (m1v ks A A.length s r c (H : Int) (W : Int) s' r' c' h' w' .ready)).toA 7) := by
  have hx : ∀ i : Nat, LAnsOK Tryz.prog loopN2 7 (sNi (m1v ks A A.length s r c (H : Int) (W : Int) s' r' c' h' w' .ready) (H : Int) (W : Int) (i : Int) 0) (outI true (hitR ks s r c W s' r' c' i) (sN (m1w ks (A ++ [mkA s' r' c']) (A.length + 1) s r c (H : Int) (W : Int) s' r' c' h' w' stE) (H : Int) (i : Int)) (sN (m1v ks A A.length s r c (H : Int) (W : Int) s' r' c' h' w' .ready) (H : Int) (i : Int))) := fun i =>
    ⟨fun _ => ⟨fun h => (inner_v ks A s r c H W s' r' c' h' w' hA hW i).1 h, fun h => (inner_v ks A s r c H W s' r' c' h' w' hA hW i).2 h⟩, fun _ => trivial⟩
  have ck : ∀ i : Nat, ∀ b ∈ [eqSt (sNi (m1v ks A A.length s r c (H : Int) (W : Int) s' r' c' h' w' .ready) (H : Int) (W : Int) (i : Int) 0) (sNi (m1v ks A A.length s r c (H : Int) (W : Int) s' r' c' h' w' .ready) (H : Int) (W : Int) (i : Int) 0), true], b = true := fun i => all2 (eqSt_refl _) rfl
  refine tri_any (W := H) (hitR ks s r c W s' r' c') (fun i => (sN (m1v ks A A.length s r c (H : Int) (W : Int) s' r' c' h' w' .ready) (H : Int) (i : Int)).toA) (fun e => by cases e) (fun e => by cases e) (fun i hi hh => ?_) (fun i hi hh => ?_) ?_
  · refine i_sound (hx i) ((n1v ks A (A ++ [mkA s' r' c']) A.length (A.length + 1) s r c (H : Int) (W : Int) (i : Int) s' r' c' h' w' true (hitR ks s r c W s' r' c' i)).trans ?_)
    rw [bcT (decide_eq_true (by omega)), chks_true (ck i), bcF hh, up1_nat (by omega)]
  · refine i_sound (hx i) ((n1v ks A (A ++ [mkA s' r' c']) A.length (A.length + 1) s r c (H : Int) (W : Int) (i : Int) s' r' c' h' w' true (hitR ks s r c W s' r' c' i)).trans ?_)
    rw [bcT (decide_eq_true (by omega)), chks_true (ck i), bcT hh]
  · refine i_sound (hx H) ((n1v ks A (A ++ [mkA s' r' c']) A.length (A.length + 1) s r c (H : Int) (W : Int) (H : Int) s' r' c' h' w' true (hitR ks s r c W s' r' c' H)).trans ?_)
    rw [bcF (decide_eq_false (by omega))]
theorem outer_m (hH : H ≤ 1000) (hW : W ≤ 1000) : Tri Tryz.prog (.loop loopN1) (sN (m2 ks s r c (H : Int) (W : Int) .ready) (H : Int) 0).toA (.exit 0) (sNX (m2 (addA s r c W ks H) s r c (H : Int) (W : Int) .ready)).toA 4 := by
  refine tri_up (body := loopN1) (fun i => (sN (m2 (addA s r c W ks i) s r c (H : Int) (W : Int) .ready) (H : Int) (i : Int)).toA) (fun e => by cases e) H (fun i hi => ?_) ?_ 0 (Nat.zero_le _)
  · refine i_sound (x := .chk true (.out (.exit 2) (sN (m2 (addR s r c i (addA s r c W ks i) W) s r c (H : Int) (W : Int) .ready) (H : Int) (i : Int)))) ⟨fun _ => inner_m (addA s r c W ks i) s r c H W hW i, fun _ => trivial⟩ ((n1m (addA s r c W ks i) (addR s r c i (addA s r c W ks i) W) s r c (H : Int) (W : Int) (i : Int) true).trans ?_)
    rw [bcT (decide_eq_true (by omega)), chks_true (all2 (eqSt_refl _) rfl), up1_nat (by omega)]; rfl
  · refine i_sound (x := .chk true (.out (.exit 2) (sN (m2 (addR s r c H (addA s r c W ks H) W) s r c (H : Int) (W : Int) .ready) (H : Int) (H : Int)))) ⟨fun _ => inner_m (addA s r c W ks H) s r c H W hW H, fun _ => trivial⟩ ((n1m (addA s r c W ks H) (addR s r c H (addA s r c W ks H) W) s r c (H : Int) (W : Int) (H : Int) true).trans ?_)
    rw [bcF (decide_eq_false (by omega))]
end
end Go.Proofs.YtphhepnldndbhaaGreatDoor

/- Layer 14: the places of an area, as spill.Place goes over them: calls. -/
set_option linter.unusedVariables false
set_option linter.unusedSimpArgs false
set_option linter.unusedSectionVars false
namespace Go.Proofs.YtphhepnldndbhaaGreatDoor
open Go Sx
abbrev aYf : List AV := [.func yF [.ptr 0 0] [], .ptr 1 0]
noncomputable def lvO1 (K : Nat) (S : PState) (x : LAns) : FuncId → Lv := lvOf 47 (fun i => if i = 1 then some [0, 1, 6, 7] else some [0, 1, 6, 7, 3, 11, 12]) (oneL 1 (eAt K S x))
theorem lvO1_ok {K : Nat} {S : PState} {x : LAns} (h : LAnsOK Tryz.prog loopN1 K S x) : LvOK Tryz.prog (lvO1 K S x) := lvOf_ok Tryz.func47 fun y hy id en hid he => by
  obtain ⟨rfl, rfl⟩ := oneL_some he
  have e2 : loopBodies (bodyOf Tryz.f47) = [loopN1, loopN2] := by kernel_rfl
  rw [e2] at hy
  rcases List.mem_cons.1 hy with rfl | hy
  · exact fun K' t => eAt_ok h K' t
  · obtain rfl := List.mem_singleton.1 hy
    have h9 : (headReg loopN2 == some 1) = false := by kernel_rfl
    exact absurd hid (fun e => by rw [e] at h9; exact absurd h9 (by decide))
def outO (c b : Bool) (F E : PState) : LAns := .chk c (.br b (.out .ret F) (.out (.exit 0) E))
section
variable (ks ks' : List (List Int)) (A A' : List (List CV)) (k k' : Nat) (s r c h w s' r' c' h' w' : Int) (ok b : Bool)
/-- The same, as objects. -/
noncomputable def q1n (st : LSt) : List PObj := [oL1 st, oA5 s r c h w, oP1 (.mapp 5) 71, oP1 .nilslice 22, oS5 s' r' c' h' w', oM ks]
noncomputable def q1v (st : LSt) : List PObj := [oL1 st, oA5 s r c h w, oP1 (.mapp 5) 71, oP1 (.vec 6 k) 22, oS5 s' r' c' h' w', oM ks, vA A]
noncomputable def q1w (st : LSt) : List PObj := [oL1 st, oA5 s r c h w, oP1 (.mapp 5) 71, oP1 (.vec 7 k) 22, oS5 s' r' c' h' w', oM ks, .raw .dead, vA A]
noncomputable def q2 (st : LSt) : List PObj := [oL2 st, oA5 s r c h w, oP1 (.mapp 3) 71, oM ks]
theorem in_n : Comes [] (lvO1 6 (sN (m1n ks s r c h w s' r' c' h' w' .ready) h 0) (outO ok b (sNX (m1v ks A k s r c h w s' r' c' h' w' stE)) (sNX (m1n ks s r c h w s' r' c' h' w' .ready)))) 47 aYf (q1n ks s r c h w s' r' c' h' w' .ready)
  (.chk (eqSt (sN (m1n ks s r c h w s' r' c' h' w' .ready) h 0) (sN (m1n ks s r c h w s' r' c' h' w' .ready) h 0)) (.chk ok (.br b (.ret (.tuple []) (q1v ks A k s r c h w s' r' c' h' w' stE)) (.ret (.tuple []) (q1n ks s r c h w s' r' c' h' w' .ready))))) := by unfold Comes; kernel_rfl
theorem in_v : Comes [] (lvO1 7 (sN (m1v ks A k s r c h w s' r' c' h' w' .ready) h 0) (outO ok b (sNX (m1w ks A' k' s r c h w s' r' c' h' w' stE)) (sNX (m1v ks A k s r c h w s' r' c' h' w' .ready)))) 47 aYf (q1v ks A k s r c h w s' r' c' h' w' .ready)
  (.chk (eqSt (sN (m1v ks A k s r c h w s' r' c' h' w' .ready) h 0) (sN (m1v ks A k s r c h w s' r' c' h' w' .ready) h 0)) (.chk ok (.br b (.ret (.tuple []) (q1w ks A' k' s r c h w s' r' c' h' w' stE)) (.ret (.tuple []) (q1v ks A k s r c h w s' r' c' h' w' .ready))))) := by unfold Comes; kernel_rfl
theorem in_m : Comes [] (lvO1 4 (sN (m2 ks s r c h w .ready) h 0) (.chk ok (.out (.exit 0) (sNX (m2 ks' s r c h w .ready))))) 47 aYf (q2 ks s r c h w .ready)
  (.chk (eqSt (sN (m2 ks s r c h w .ready) h 0) (sN (m2 ks s r c h w .ready) h 0)) (.chk ok (.ret (.tuple []) (q2 ks' s r c h w .ready)))) := by unfold Comes; kernel_rfl
end
open Classical in
/-- The places of an area: of one that is looked at; of one that is placed. -/
noncomputable def eIn (ks : List (List Int)) (A : List (List CV)) (s r c h w s' r' c' h' w' : Int) : Ent := fun args pre => match pre with
  | [_, _, _, _] => .chk (decide ((args = aYf ∧ pre = q2 ks s r c h w .ready) ∧ (0 ≤ h ∧ h ≤ 1000) ∧ 0 ≤ w ∧ w ≤ 1000)) (.ret (.tuple []) (q2 (addA s r c w.toNat ks h.toNat) s r c h w .ready))
  | [_, _, _, _, _, _] => .chk (decide ((args = aYf ∧ pre = q1n ks s r c h w s' r' c' h' w' .ready) ∧ (0 ≤ h ∧ h ≤ 1000) ∧ 0 ≤ w ∧ w ≤ 1000)) (.br (hitA ks s r c h.toNat w.toNat s' r' c') (.ret (.tuple []) (q1v ks [mkA s' r' c'] 1 s r c h w s' r' c' h' w' stE)) (.ret (.tuple []) (q1n ks s r c h w s' r' c' h' w' .ready)))
  | [_, _, _, _, _, _, _] => .chk (decide ((args = aYf ∧ pre = q1v ks A A.length s r c h w s' r' c' h' w' .ready) ∧ (0 ≤ h ∧ h ≤ 1000) ∧ (0 ≤ w ∧ w ≤ 1000) ∧ A.length ≤ 1000)) (.br (hitA ks s r c h.toNat w.toNat s' r' c') (.ret (.tuple []) (q1w ks (A ++ [mkA s' r' c']) (A.length + 1) s r c h w s' r' c' h' w' stE)) (.ret (.tuple []) (q1v ks A A.length s r c h w s' r' c' h' w' .ready)))
  | _ => .fail
theorem nat_of {h : Int} (h0 : 0 ≤ h) (h1 : h ≤ 1000) : ∃ H : Nat, h = (H : Int) ∧ h.toNat = H ∧ H ≤ 1000 := ⟨h.toNat, by omega, rfl, by omega⟩
open Classical in
theorem eIn_ok (ks : List (List Int)) (A : List (List CV)) (s r c h w s' r' c' h' w' : Int) : EntOK Tryz.prog 47 (eIn ks A s r c h w s' r' c' h' w') := fun args pre => by
  unfold eIn
  split
  · refine ⟨fun g => ?_, fun _ => trivial⟩
    obtain ⟨⟨rfl, e⟩, ⟨h0, h1⟩, w0, w1⟩ := of_decide_eq_true g
    obtain ⟨H, rfl, eH, hH⟩ := nat_of h0 h1
    obtain ⟨W, rfl, eW, hW⟩ := nat_of w0 w1
    rw [e, eH, eW]
    refine meets_ent (pre := q2 ks s r c H W .ready) (post := q2 (addA s r c W ks H) s r c H W .ready) .nil host ((in_m ks (addA s r c W ks H) s r c H W true).trans ?_) (lvO1_ok ⟨fun _ => outer_m ks s r c H W hH hW, fun _ => trivial⟩)
    rw [chkT (eqSt_refl _), chkT rfl]; rfl
  · refine ⟨fun g => ?_, fun _ => trivial⟩
    obtain ⟨⟨rfl, e⟩, ⟨h0, h1⟩, w0, w1⟩ := of_decide_eq_true g
    obtain ⟨H, rfl, eH, hH⟩ := nat_of h0 h1
    obtain ⟨W, rfl, eW, hW⟩ := nat_of w0 w1
    rw [e, eH, eW]
    have key := outer_n ks s r c H W s' r' c' h' w' hH hW
    refine ⟨fun hb => ?_, fun hb => ?_⟩
    · refine meets_ent (pre := q1n ks s r c H W s' r' c' h' w' .ready) (post := q1v ks [mkA s' r' c'] 1 s r c H W s' r' c' h' w' stE) .nil host ((in_n ks [mkA s' r' c'] 1 s r c H W s' r' c' h' w' true true).trans ?_) (lvO1_ok ⟨fun _ => ⟨fun _ => key.1 hb, fun e => by cases e⟩, fun _ => trivial⟩)
      rw [chkT (eqSt_refl _), chkT rfl, brT rfl]; rfl
    · refine meets_ent (pre := q1n ks s r c H W s' r' c' h' w' .ready) (post := q1n ks s r c H W s' r' c' h' w' .ready) .nil host ((in_n ks [mkA s' r' c'] 1 s r c H W s' r' c' h' w' true false).trans ?_) (lvO1_ok ⟨fun _ => ⟨(fun e => by cases e), fun _ => key.2 hb⟩, fun _ => trivial⟩)
      rw [chkT (eqSt_refl _), chkT rfl, brF rfl]; rfl
  · refine ⟨fun g => ?_, fun _ => trivial⟩
    obtain ⟨⟨rfl, e⟩, ⟨h0, h1⟩, ⟨w0, w1⟩, hA⟩ := of_decide_eq_true g
    obtain ⟨H, rfl, eH, hH⟩ := nat_of h0 h1
    obtain ⟨W, rfl, eW, hW⟩ := nat_of w0 w1
    rw [e, eH, eW]
    have key := outer_v ks A s r c H W s' r' c' h' w' hA hH hW
    refine ⟨fun hb => ?_, fun hb => ?_⟩
    · refine meets_ent (pre := q1v ks A A.length s r c H W s' r' c' h' w' .ready) (post := q1w ks (A ++ [mkA s' r' c']) (A.length + 1) s r c H W s' r' c' h' w' stE) .nil host ((in_v ks A (A ++ [mkA s' r' c']) A.length (A.length + 1) s r c H W s' r' c' h' w' true true).trans ?_) (lvO1_ok ⟨fun _ => ⟨fun _ => key.1 hb, fun e => by cases e⟩, fun _ => trivial⟩)
      rw [chkT (eqSt_refl _), chkT rfl, brT rfl]; rfl
    · refine meets_ent (pre := q1v ks A A.length s r c H W s' r' c' h' w' .ready) (post := q1v ks A A.length s r c H W s' r' c' h' w' .ready) .nil host ((in_v ks A (A ++ [mkA s' r' c']) A.length (A.length + 1) s r c H W s' r' c' h' w' true false).trans ?_) (lvO1_ok ⟨fun _ => ⟨(fun e => by cases e), fun _ => key.2 hb⟩, fun _ => trivial⟩)
      rw [chkT (eqSt_refl _), chkT rfl, brF rfl]; rfl
  · trivial
end Go.Proofs.YtphhepnldndbhaaGreatDoor

/- Layer 14: spill.Place: rounds over the spills (written by gen_spu.py). -/
set_option linter.unusedVariables false
set_option linter.unusedSimpArgs false
set_option linter.unusedSectionVars false
namespace Go.Proofs.YtphhepnldndbhaaGreatDoor
open Go Sx
noncomputable abbrev loopQ : Code := ((loopBodies (bodyOf Tryz.f14)).drop 1).headD .skip
abbrev kM : Nat → Bool := fun n => hasN [9, 12, 13, 41, 42, 43] n
abbrev kMX : Nat → Bool := fun n => hasN [12, 13] n
/-- The head of the loop; behind it. -/
def sM (pre : List (Option PObj)) (K : Nat) (pl : AV) (kb : Nat) (m : Nat) (i : Int) (t : List (Option PObj)) : PState := ⟨nn 9 ++ (some (.ptr K 0) :: nn 2 ++ (some pl :: some (.ptr kb 0) :: nn 27 ++ (some (.vec 1 m) :: some (.int .i64 (m : Int)) :: some (.int .i64 i) :: nn 42))), pre ++ (t ++ nn 64)⟩
def sMX (pre : List (Option PObj)) (pl : AV) (kb : Nat) (t : List (Option PObj)) : PState := ⟨nn 12 ++ (some pl :: some (.ptr kb 0) :: nn 72), pre ++ (t ++ nn 64)⟩
noncomputable def tPl (ks : List (List Int)) (B : List (List CV)) (x : List CV) : Tab := [(29, eRar), (47, eIn ks B (c0 x) (c1 x) (c2 x) (c3 x) (c4 x) (c0 x) (c1 x) (c2 x) (c3 x) (c4 x))]
theorem tPl_ok (ks : List (List Int)) (B : List (List CV)) (x : List CV) : TabOK Tryz.prog (tPl ks B x) := .cons eRar_ok (.cons (eIn_ok ks B (c0 x) (c1 x) (c2 x) (c3 x) (c4 x) (c0 x) (c1 x) (c2 x) (c3 x) (c4 x)) .nil)
section
variable (X Y L P B : List (List CV)) (ks : List (List Int)) (p q m a : Nat) (i : Int)
abbrev rwL : List CV := Sx.rowAt L i.toNat
abbrev arL : Bool := areaB (c0 (rwL L i)) (c1 (rwL L i)) (c2 (rwL L i)) (c3 (rwL L i)) (c4 (rwL L i))
abbrev spL1 : List CV := mkS (c0 (rwL L i)) (c1 (rwL L i)) (c2 (rwL L i)) (c3 (rwL L i)) (c4 (rwL L i))
abbrev atL1 : List CV := mkA (c0 (rwL L i)) (c1 (rwL L i)) (c2 (rwL L i))
def hitL : Bool := hitA ks (c0 (rwL L i)) (c1 (rwL L i)) (c2 (rwL L i)) (c3 (rwL L i)).toNat (c4 (rwL L i)).toNat (c0 (rwL L i)) (c1 (rwL L i)) (c2 (rwL L i))
def addL : List (List Int) := addA (c0 (rwL L i)) (c1 (rwL L i)) (c2 (rwL L i)) (c4 (rwL L i)).toNat ks (c3 (rwL L i)).toNat
def ckM : List Bool := [ixN i m, inR i L, inI (c1 (rwL L i)) && inI (c2 (rwL L i))]
open Classical in
noncomputable def ckIn : Bool := decide ((aYf = aYf ∧ q1n ks (c0 (rwL L i)) (c1 (rwL L i)) (c2 (rwL L i)) (c3 (rwL L i)) (c4 (rwL L i)) (c0 (rwL L i)) (c1 (rwL L i)) (c2 (rwL L i)) (c3 (rwL L i)) (c4 (rwL L i)) .ready = q1n ks (c0 (rwL L i)) (c1 (rwL L i)) (c2 (rwL L i)) (c3 (rwL L i)) (c4 (rwL L i)) (c0 (rwL L i)) (c1 (rwL L i)) (c2 (rwL L i)) (c3 (rwL L i)) (c4 (rwL L i)) .ready) ∧ (0 ≤ c3 (rwL L i) ∧ c3 (rwL L i) ≤ 1000) ∧ 0 ≤ c4 (rwL L i) ∧ c4 (rwL L i) ≤ 1000)
open Classical in
noncomputable def ckIv : Bool := decide ((aYf = aYf ∧ q1v ks B B.length (c0 (rwL L i)) (c1 (rwL L i)) (c2 (rwL L i)) (c3 (rwL L i)) (c4 (rwL L i)) (c0 (rwL L i)) (c1 (rwL L i)) (c2 (rwL L i)) (c3 (rwL L i)) (c4 (rwL L i)) .ready = q1v ks B B.length (c0 (rwL L i)) (c1 (rwL L i)) (c2 (rwL L i)) (c3 (rwL L i)) (c4 (rwL L i)) (c0 (rwL L i)) (c1 (rwL L i)) (c2 (rwL L i)) (c3 (rwL L i)) (c4 (rwL L i)) .ready) ∧ (0 ≤ c3 (rwL L i) ∧ c3 (rwL L i) ≤ 1000) ∧ (0 ≤ c4 (rwL L i) ∧ c4 (rwL L i) ≤ 1000) ∧ B.length ≤ 1000)
open Classical in
noncomputable def ckIm : Bool := decide ((aYf = aYf ∧ q2 ks (c0 (rwL L i)) (c1 (rwL L i)) (c2 (rwL L i)) (c3 (rwL L i)) (c4 (rwL L i)) .ready = q2 ks (c0 (rwL L i)) (c1 (rwL L i)) (c2 (rwL L i)) (c3 (rwL L i)) (c4 (rwL L i)) .ready) ∧ (0 ≤ c3 (rwL L i) ∧ c3 (rwL L i) ≤ 1000) ∧ 0 ≤ c4 (rwL L i) ∧ c4 (rwL L i) ≤ 1000)
def ckBv : Bool := decide ((vA B).len = B.length * 3) && roomB (B.length + 1) 24
def ckPv : Bool := decide ((vS P).len = a * 5) && roomB (a + 1) 40
def prX : List (Option PObj) := [some (oSh (.vec 2 p) .nilslice), some (vS L), some (vC X)]
def prY : List (Option PObj) := [some (oSh .nilslice (.vec 2 q)), some (vS L), some (vC Y)]
def prB : List (Option PObj) := [some (oSh (.vec 2 p) (.vec 3 q)), some (vS L), some (vC X), some (vC Y)]
theorem qx00 : code (ent Tryz.prog (tPl ks B (rwL L i)) nolv 64 1 20) Tryz.prog {} 3 64 1 loopQ (sM (prX X L p) 3 .nilslice 4 m i [some (oP1 (.mapp 5) 71), some (oP1 .nilslice 22), some (oM ks)]) (endK 3 64 kM kMX)
  = bcond (decide (i < (m : Int))) (chks (bcond (!arL L i) (some (.normal, (sM (prX X L p) 3 .nilslice 4 m (up1 i) [some (oP1 (.mapp 5) 71), some (oP1 (.vec 6 1) 22), some (oM ks), some (vA [atL1 L i])]))) (chks (bcond (hitL L ks i) (some (.normal, (sM (prX X L p) 3 .nilslice 4 m (up1 i) [some (oP1 (.mapp 5) 71), some (oP1 (.vec 6 1) 22), some (oM ks), some (vA [atL1 L i])]))) (chks (some (.normal, (sM (prX X L p) 3 (.vec 4 1) 5 m (up1 i) [some (oP1 (.mapp 6) 71), some (vS [spL1 L i]), some (oP1 .nilslice 22), some (oM (addL L ks i))]))) [ckIm L ks i])) [ckIn L ks i])) (ckM L m i)) (some (.exit 2, (sMX (prX X L p) .nilslice 3 [some (oP1 .nilslice 22)]))) := by kernel_rfl
theorem qx01 : code (ent Tryz.prog (tPl ks B (rwL L i)) nolv 64 1 20) Tryz.prog {} 3 64 1 loopQ (sM (prX X L p) 3 .nilslice 4 m i [some (oP1 (.mapp 5) 71), some (oP1 (.vec 6 B.length) 22), some (oM ks), some (vA B)]) (endK 3 64 kM kMX)
  = bcond (decide (i < (m : Int))) (chks (bcond (!arL L i) (chks (some (.normal, (sM (prX X L p) 3 .nilslice 4 m (up1 i) [some (oP1 (.mapp 5) 71), some (oP1 (.vec 6 (B.length + 1)) 22), some (oM ks), some (vA (B ++ [atL1 L i]))]))) [ckBv B]) (chks (bcond (hitL L ks i) (some (.normal, (sM (prX X L p) 3 .nilslice 4 m (up1 i) [some (oP1 (.mapp 5) 71), some (oP1 (.vec 6 (B.length + 1)) 22), some (oM ks), some (vA (B ++ [atL1 L i]))]))) (chks (some (.normal, (sM (prX X L p) 3 (.vec 4 1) 5 m (up1 i) [some (oP1 (.mapp 6) 71), some (vS [spL1 L i]), some (oP1 (.vec 7 B.length) 22), some (oM (addL L ks i)), some (vA B)]))) [ckIm L ks i])) [ckIv L B ks i])) (ckM L m i)) (some (.exit 2, (sMX (prX X L p) .nilslice 3 [some (oP1 (.vec 4 B.length) 22), some (vA B)]))) := by kernel_rfl
theorem qx10 : code (ent Tryz.prog (tPl ks B (rwL L i)) nolv 64 1 20) Tryz.prog {} 3 64 1 loopQ (sM (prX X L p) 3 (.vec 4 a) 5 m i [some (oP1 (.mapp 6) 71), some (vS P), some (oP1 .nilslice 22), some (oM ks)]) (endK 3 64 kM kMX)
  = bcond (decide (i < (m : Int))) (chks (bcond (!arL L i) (some (.normal, (sM (prX X L p) 3 (.vec 4 a) 5 m (up1 i) [some (oP1 (.mapp 6) 71), some (vS P), some (oP1 (.vec 7 1) 22), some (oM ks), some (vA [atL1 L i])]))) (chks (bcond (hitL L ks i) (some (.normal, (sM (prX X L p) 3 (.vec 4 a) 5 m (up1 i) [some (oP1 (.mapp 6) 71), some (vS P), some (oP1 (.vec 7 1) 22), some (oM ks), some (vA [atL1 L i])]))) (chks (chks (some (.normal, (sM (prX X L p) 3 (.vec 4 (a + 1)) 5 m (up1 i) [some (oP1 (.mapp 6) 71), some (vS (P ++ [spL1 L i])), some (oP1 .nilslice 22), some (oM (addL L ks i))]))) [ckPv P a]) [ckIm L ks i])) [ckIn L ks i])) (ckM L m i)) (some (.exit 2, (sMX (prX X L p) (.vec 3 a) 4 [some (vS P), some (oP1 .nilslice 22)]))) := by kernel_rfl
theorem qx11 : code (ent Tryz.prog (tPl ks B (rwL L i)) nolv 64 1 20) Tryz.prog {} 3 64 1 loopQ (sM (prX X L p) 3 (.vec 4 a) 5 m i [some (oP1 (.mapp 6) 71), some (vS P), some (oP1 (.vec 7 B.length) 22), some (oM ks), some (vA B)]) (endK 3 64 kM kMX)
  = bcond (decide (i < (m : Int))) (chks (bcond (!arL L i) (chks (some (.normal, (sM (prX X L p) 3 (.vec 4 a) 5 m (up1 i) [some (oP1 (.mapp 6) 71), some (vS P), some (oP1 (.vec 7 (B.length + 1)) 22), some (oM ks), some (vA (B ++ [atL1 L i]))]))) [ckBv B]) (chks (bcond (hitL L ks i) (some (.normal, (sM (prX X L p) 3 (.vec 4 a) 5 m (up1 i) [some (oP1 (.mapp 6) 71), some (vS P), some (oP1 (.vec 7 (B.length + 1)) 22), some (oM ks), some (vA (B ++ [atL1 L i]))]))) (chks (chks (some (.normal, (sM (prX X L p) 3 (.vec 4 (a + 1)) 5 m (up1 i) [some (oP1 (.mapp 6) 71), some (vS (P ++ [spL1 L i])), some (oP1 (.vec 7 B.length) 22), some (oM (addL L ks i)), some (vA B)]))) [ckPv P a]) [ckIm L ks i])) [ckIv L B ks i])) (ckM L m i)) (some (.exit 2, (sMX (prX X L p) (.vec 3 a) 4 [some (vS P), some (oP1 (.vec 5 B.length) 22), some (vA B)]))) := by kernel_rfl
theorem qy00 : code (ent Tryz.prog (tPl ks B (rwL L i)) nolv 64 1 20) Tryz.prog {} 3 64 1 loopQ (sM (prY Y L q) 3 .nilslice 4 m i [some (oP1 (.mapp 5) 71), some (oP1 .nilslice 22), some (oM ks)]) (endK 3 64 kM kMX)
  = bcond (decide (i < (m : Int))) (chks (bcond (!arL L i) (some (.normal, (sM (prY Y L q) 3 .nilslice 4 m (up1 i) [some (oP1 (.mapp 5) 71), some (oP1 (.vec 6 1) 22), some (oM ks), some (vA [atL1 L i])]))) (chks (bcond (hitL L ks i) (some (.normal, (sM (prY Y L q) 3 .nilslice 4 m (up1 i) [some (oP1 (.mapp 5) 71), some (oP1 (.vec 6 1) 22), some (oM ks), some (vA [atL1 L i])]))) (chks (some (.normal, (sM (prY Y L q) 3 (.vec 4 1) 5 m (up1 i) [some (oP1 (.mapp 6) 71), some (vS [spL1 L i]), some (oP1 .nilslice 22), some (oM (addL L ks i))]))) [ckIm L ks i])) [ckIn L ks i])) (ckM L m i)) (some (.exit 2, (sMX (prY Y L q) .nilslice 3 [some (oP1 .nilslice 22)]))) := by kernel_rfl
theorem qy01 : code (ent Tryz.prog (tPl ks B (rwL L i)) nolv 64 1 20) Tryz.prog {} 3 64 1 loopQ (sM (prY Y L q) 3 .nilslice 4 m i [some (oP1 (.mapp 5) 71), some (oP1 (.vec 6 B.length) 22), some (oM ks), some (vA B)]) (endK 3 64 kM kMX)
  = bcond (decide (i < (m : Int))) (chks (bcond (!arL L i) (chks (some (.normal, (sM (prY Y L q) 3 .nilslice 4 m (up1 i) [some (oP1 (.mapp 5) 71), some (oP1 (.vec 6 (B.length + 1)) 22), some (oM ks), some (vA (B ++ [atL1 L i]))]))) [ckBv B]) (chks (bcond (hitL L ks i) (some (.normal, (sM (prY Y L q) 3 .nilslice 4 m (up1 i) [some (oP1 (.mapp 5) 71), some (oP1 (.vec 6 (B.length + 1)) 22), some (oM ks), some (vA (B ++ [atL1 L i]))]))) (chks (some (.normal, (sM (prY Y L q) 3 (.vec 4 1) 5 m (up1 i) [some (oP1 (.mapp 6) 71), some (vS [spL1 L i]), some (oP1 (.vec 7 B.length) 22), some (oM (addL L ks i)), some (vA B)]))) [ckIm L ks i])) [ckIv L B ks i])) (ckM L m i)) (some (.exit 2, (sMX (prY Y L q) .nilslice 3 [some (oP1 (.vec 4 B.length) 22), some (vA B)]))) := by kernel_rfl
theorem qy10 : code (ent Tryz.prog (tPl ks B (rwL L i)) nolv 64 1 20) Tryz.prog {} 3 64 1 loopQ (sM (prY Y L q) 3 (.vec 4 a) 5 m i [some (oP1 (.mapp 6) 71), some (vS P), some (oP1 .nilslice 22), some (oM ks)]) (endK 3 64 kM kMX)
  = bcond (decide (i < (m : Int))) (chks (bcond (!arL L i) (some (.normal, (sM (prY Y L q) 3 (.vec 4 a) 5 m (up1 i) [some (oP1 (.mapp 6) 71), some (vS P), some (oP1 (.vec 7 1) 22), some (oM ks), some (vA [atL1 L i])]))) (chks (bcond (hitL L ks i) (some (.normal, (sM (prY Y L q) 3 (.vec 4 a) 5 m (up1 i) [some (oP1 (.mapp 6) 71), some (vS P), some (oP1 (.vec 7 1) 22), some (oM ks), some (vA [atL1 L i])]))) (chks (chks (some (.normal, (sM (prY Y L q) 3 (.vec 4 (a + 1)) 5 m (up1 i) [some (oP1 (.mapp 6) 71), some (vS (P ++ [spL1 L i])), some (oP1 .nilslice 22), some (oM (addL L ks i))]))) [ckPv P a]) [ckIm L ks i])) [ckIn L ks i])) (ckM L m i)) (some (.exit 2, (sMX (prY Y L q) (.vec 3 a) 4 [some (vS P), some (oP1 .nilslice 22)]))) := by kernel_rfl
theorem qy11 : code (ent Tryz.prog (tPl ks B (rwL L i)) nolv 64 1 20) Tryz.prog {} 3 64 1 loopQ (sM (prY Y L q) 3 (.vec 4 a) 5 m i [some (oP1 (.mapp 6) 71), some (vS P), some (oP1 (.vec 7 B.length) 22), some (oM ks), some (vA B)]) (endK 3 64 kM kMX)
  = bcond (decide (i < (m : Int))) (chks (bcond (!arL L i) (chks (some (.normal, (sM (prY Y L q) 3 (.vec 4 a) 5 m (up1 i) [some (oP1 (.mapp 6) 71), some (vS P), some (oP1 (.vec 7 (B.length + 1)) 22), some (oM ks), some (vA (B ++ [atL1 L i]))]))) [ckBv B]) (chks (bcond (hitL L ks i) (some (.normal, (sM (prY Y L q) 3 (.vec 4 a) 5 m (up1 i) [some (oP1 (.mapp 6) 71), some (vS P), some (oP1 (.vec 7 (B.length + 1)) 22), some (oM ks), some (vA (B ++ [atL1 L i]))]))) (chks (chks (some (.normal, (sM (prY Y L q) 3 (.vec 4 (a + 1)) 5 m (up1 i) [some (oP1 (.mapp 6) 71), some (vS (P ++ [spL1 L i])), some (oP1 (.vec 7 B.length) 22), some (oM (addL L ks i)), some (vA B)]))) [ckPv P a]) [ckIm L ks i])) [ckIv L B ks i])) (ckM L m i)) (some (.exit 2, (sMX (prY Y L q) (.vec 3 a) 4 [some (vS P), some (oP1 (.vec 5 B.length) 22), some (vA B)]))) := by kernel_rfl
theorem qb00 : code (ent Tryz.prog (tPl ks B (rwL L i)) nolv 64 1 20) Tryz.prog {} 4 64 1 loopQ (sM (prB X Y L p q) 4 .nilslice 5 m i [some (oP1 (.mapp 6) 71), some (oP1 .nilslice 22), some (oM ks)]) (endK 4 64 kM kMX)
  = bcond (decide (i < (m : Int))) (chks (bcond (!arL L i) (some (.normal, (sM (prB X Y L p q) 4 .nilslice 5 m (up1 i) [some (oP1 (.mapp 6) 71), some (oP1 (.vec 7 1) 22), some (oM ks), some (vA [atL1 L i])]))) (chks (bcond (hitL L ks i) (some (.normal, (sM (prB X Y L p q) 4 .nilslice 5 m (up1 i) [some (oP1 (.mapp 6) 71), some (oP1 (.vec 7 1) 22), some (oM ks), some (vA [atL1 L i])]))) (chks (some (.normal, (sM (prB X Y L p q) 4 (.vec 5 1) 6 m (up1 i) [some (oP1 (.mapp 7) 71), some (vS [spL1 L i]), some (oP1 .nilslice 22), some (oM (addL L ks i))]))) [ckIm L ks i])) [ckIn L ks i])) (ckM L m i)) (some (.exit 2, (sMX (prB X Y L p q) .nilslice 4 [some (oP1 .nilslice 22)]))) := by kernel_rfl
theorem qb01 : code (ent Tryz.prog (tPl ks B (rwL L i)) nolv 64 1 20) Tryz.prog {} 4 64 1 loopQ (sM (prB X Y L p q) 4 .nilslice 5 m i [some (oP1 (.mapp 6) 71), some (oP1 (.vec 7 B.length) 22), some (oM ks), some (vA B)]) (endK 4 64 kM kMX)
  = bcond (decide (i < (m : Int))) (chks (bcond (!arL L i) (chks (some (.normal, (sM (prB X Y L p q) 4 .nilslice 5 m (up1 i) [some (oP1 (.mapp 6) 71), some (oP1 (.vec 7 (B.length + 1)) 22), some (oM ks), some (vA (B ++ [atL1 L i]))]))) [ckBv B]) (chks (bcond (hitL L ks i) (some (.normal, (sM (prB X Y L p q) 4 .nilslice 5 m (up1 i) [some (oP1 (.mapp 6) 71), some (oP1 (.vec 7 (B.length + 1)) 22), some (oM ks), some (vA (B ++ [atL1 L i]))]))) (chks (some (.normal, (sM (prB X Y L p q) 4 (.vec 5 1) 6 m (up1 i) [some (oP1 (.mapp 7) 71), some (vS [spL1 L i]), some (oP1 (.vec 8 B.length) 22), some (oM (addL L ks i)), some (vA B)]))) [ckIm L ks i])) [ckIv L B ks i])) (ckM L m i)) (some (.exit 2, (sMX (prB X Y L p q) .nilslice 4 [some (oP1 (.vec 5 B.length) 22), some (vA B)]))) := by kernel_rfl
theorem qb10 : code (ent Tryz.prog (tPl ks B (rwL L i)) nolv 64 1 20) Tryz.prog {} 4 64 1 loopQ (sM (prB X Y L p q) 4 (.vec 5 a) 6 m i [some (oP1 (.mapp 7) 71), some (vS P), some (oP1 .nilslice 22), some (oM ks)]) (endK 4 64 kM kMX)
  = bcond (decide (i < (m : Int))) (chks (bcond (!arL L i) (some (.normal, (sM (prB X Y L p q) 4 (.vec 5 a) 6 m (up1 i) [some (oP1 (.mapp 7) 71), some (vS P), some (oP1 (.vec 8 1) 22), some (oM ks), some (vA [atL1 L i])]))) (chks (bcond (hitL L ks i) (some (.normal, (sM (prB X Y L p q) 4 (.vec 5 a) 6 m (up1 i) [some (oP1 (.mapp 7) 71), some (vS P), some (oP1 (.vec 8 1) 22), some (oM ks), some (vA [atL1 L i])]))) (chks (chks (some (.normal, (sM (prB X Y L p q) 4 (.vec 5 (a + 1)) 6 m (up1 i) [some (oP1 (.mapp 7) 71), some (vS (P ++ [spL1 L i])), some (oP1 .nilslice 22), some (oM (addL L ks i))]))) [ckPv P a]) [ckIm L ks i])) [ckIn L ks i])) (ckM L m i)) (some (.exit 2, (sMX (prB X Y L p q) (.vec 4 a) 5 [some (vS P), some (oP1 .nilslice 22)]))) := by kernel_rfl
theorem qb11 : code (ent Tryz.prog (tPl ks B (rwL L i)) nolv 64 1 20) Tryz.prog {} 4 64 1 loopQ (sM (prB X Y L p q) 4 (.vec 5 a) 6 m i [some (oP1 (.mapp 7) 71), some (vS P), some (oP1 (.vec 8 B.length) 22), some (oM ks), some (vA B)]) (endK 4 64 kM kMX)
  = bcond (decide (i < (m : Int))) (chks (bcond (!arL L i) (chks (some (.normal, (sM (prB X Y L p q) 4 (.vec 5 a) 6 m (up1 i) [some (oP1 (.mapp 7) 71), some (vS P), some (oP1 (.vec 8 (B.length + 1)) 22), some (oM ks), some (vA (B ++ [atL1 L i]))]))) [ckBv B]) (chks (bcond (hitL L ks i) (some (.normal, (sM (prB X Y L p q) 4 (.vec 5 a) 6 m (up1 i) [some (oP1 (.mapp 7) 71), some (vS P), some (oP1 (.vec 8 (B.length + 1)) 22), some (oM ks), some (vA (B ++ [atL1 L i]))]))) (chks (chks (some (.normal, (sM (prB X Y L p q) 4 (.vec 5 (a + 1)) 6 m (up1 i) [some (oP1 (.mapp 7) 71), some (vS (P ++ [spL1 L i])), some (oP1 (.vec 8 B.length) 22), some (oM (addL L ks i)), some (vA B)]))) [ckPv P a]) [ckIm L ks i])) [ckIv L B ks i])) (ckM L m i)) (some (.exit 2, (sMX (prB X Y L p q) (.vec 4 a) 5 [some (vS P), some (oP1 (.vec 6 B.length) 22), some (vA B)]))) := by kernel_rfl
end
end Go.Proofs.YtphhepnldndbhaaGreatDoor

/- Layer 14: spill.Place: the loop over the spills (written by gen_spv.py). -/
set_option linter.unusedVariables false
set_option linter.unusedSimpArgs false
set_option linter.unusedSectionVars false
namespace Go.Proofs.YtphhepnldndbhaaGreatDoor
open Go Sx
/-- The spills that are placed, the places that are blocked, the places that are taken, after so many spills. -/
structure PlS where
  P : List (List CV)
  B : List (List CV)
  ks : List (List Int)
def plN (L : List (List CV)) (ks0 : List (List Int)) : Nat → PlS
  | 0 => ⟨[], [], ks0⟩
  | j + 1 => bcond (!arL L (j : Int)) ⟨(plN L ks0 j).P, (plN L ks0 j).B ++ [atL1 L (j : Int)], (plN L ks0 j).ks⟩ (bcond (hitL L (plN L ks0 j).ks (j : Int)) ⟨(plN L ks0 j).P, (plN L ks0 j).B ++ [atL1 L (j : Int)], (plN L ks0 j).ks⟩ ⟨(plN L ks0 j).P ++ [spL1 L (j : Int)], (plN L ks0 j).B, addL L (plN L ks0 j).ks (j : Int)⟩)
theorem plN_len (L : List (List CV)) (ks0 : List (List Int)) : ∀ j, (plN L ks0 j).P.length + (plN L ks0 j).B.length = j
  | 0 => rfl
  | j + 1 => by
    have ih := plN_len L ks0 j
    rw [plN]
    cases !arL L (j : Int) with
    | true => simp only [bcond, List.length_append, List.length_singleton]; omega
    | false => cases hitL L (plN L ks0 j).ks (j : Int) <;> simp only [bcond, List.length_append, List.length_singleton] <;> omega
def sMof (pre : List (Option PObj)) (K m : Nat) (i : Int) (ks : List (List Int)) : List (List CV) → List (List CV) → PState
  | [], [] => sM pre K .nilslice (K + 1) m i [some (oP1 (.mapp (K + 2)) 71), some (oP1 .nilslice 22), some (oM ks)]
  | [], B => sM pre K .nilslice (K + 1) m i [some (oP1 (.mapp (K + 2)) 71), some (oP1 (.vec (K + 3) B.length) 22), some (oM ks), some (vA B)]
  | P, [] => sM pre K (.vec (K + 1) P.length) (K + 2) m i [some (oP1 (.mapp (K + 3)) 71), some (vS P), some (oP1 .nilslice 22), some (oM ks)]
  | P, B => sM pre K (.vec (K + 1) P.length) (K + 2) m i [some (oP1 (.mapp (K + 3)) 71), some (vS P), some (oP1 (.vec (K + 4) B.length) 22), some (oM ks), some (vA B)]
def sMXof (pre : List (Option PObj)) (K : Nat) : List (List CV) → List (List CV) → PState
  | [], [] => sMX pre .nilslice K [some (oP1 .nilslice 22)]
  | [], B => sMX pre .nilslice K [some (oP1 (.vec (K + 1) B.length) 22), some (vA B)]
  | P, [] => sMX pre (.vec K P.length) (K + 1) [some (vS P), some (oP1 .nilslice 22)]
  | P, B => sMX pre (.vec K P.length) (K + 1) [some (vS P), some (oP1 (.vec (K + 2) B.length) 22), some (vA B)]
section
variable {pre : List (Option PObj)} {K m : Nat} {i : Int} {ks : List (List Int)}
theorem sM_appP (P B : List (List CV)) (r : List CV) : sMof pre K m i ks (P ++ [r]) B = match B with
  | [] => sM pre K (.vec (K + 1) (P.length + 1)) (K + 2) m i [some (oP1 (.mapp (K + 3)) 71), some (vS (P ++ [r])), some (oP1 .nilslice 22), some (oM ks)]
  | B => sM pre K (.vec (K + 1) (P.length + 1)) (K + 2) m i [some (oP1 (.mapp (K + 3)) 71), some (vS (P ++ [r])), some (oP1 (.vec (K + 4) B.length) 22), some (oM ks), some (vA B)] := by
  have : (P ++ [r]).length = P.length + 1 := by simp
  rw [← this]
  cases P <;> cases B <;> rfl
theorem sM_appB (P B : List (List CV)) (r : List CV) : sMof pre K m i ks P (B ++ [r]) = match P with
  | [] => sM pre K .nilslice (K + 1) m i [some (oP1 (.mapp (K + 2)) 71), some (oP1 (.vec (K + 3) (B.length + 1)) 22), some (oM ks), some (vA (B ++ [r]))]
  | P => sM pre K (.vec (K + 1) P.length) (K + 2) m i [some (oP1 (.mapp (K + 3)) 71), some (vS P), some (oP1 (.vec (K + 4) (B.length + 1)) 22), some (oM ks), some (vA (B ++ [r]))] := by
  have : (B ++ [r]).length = B.length + 1 := by simp
  rw [← this]
  cases P <;> cases B <;> rfl
end
section
variable {X Y L : List (List CV)} {ks ks0 : List (List Int)} {p q : Nat}
/-- What the rounds ask of the spills. -/
def okT (L : List (List CV)) : Prop := L.length ≤ 400 ∧ ∀ j, j < L.length → (1 ≤ c3 (Sx.rowAt L j) ∧ c3 (Sx.rowAt L j) ≤ 20) ∧ (1 ≤ c4 (Sx.rowAt L j) ∧ c4 (Sx.rowAt L j) ≤ 20) ∧ inI (c1 (Sx.rowAt L j)) = true ∧ inI (c2 (Sx.rowAt L j)) = true
theorem ckM_ok (h : okT L) {j : Nat} (hj : j < L.length) : ∀ b ∈ ckM L L.length (j : Int), b = true := by
  obtain ⟨_, _, h1, h2⟩ := h.2 j hj
  intro b hb
  have e : rwL L (j : Int) = Sx.rowAt L j := by unfold rwL; rw [Int.toNat_natCast]
  unfold ckM at hb
  rw [e] at hb
  simp only [List.mem_cons, List.not_mem_nil, or_false] at hb
  rcases hb with rfl | rfl | rfl
  · exact ixN_nat hj
  · exact inR_nat hj
  · rw [h1, h2]; rfl
open Classical in
theorem ckIn_ok (h : okT L) {j : Nat} (hj : j < L.length) : ckIn L ks (j : Int) = true := by
  obtain ⟨⟨a1, a2⟩, ⟨b1, b2⟩, _⟩ := h.2 j hj
  have e : rwL L (j : Int) = Sx.rowAt L j := by unfold rwL; rw [Int.toNat_natCast]
  unfold ckIn
  rw [e]
  exact decide_eq_true ⟨⟨rfl, rfl⟩, ⟨by omega, by omega⟩, by omega, by omega⟩
open Classical in
theorem ckIv_ok (h : okT L) {B : List (List CV)} (hB : B.length ≤ 1000) {j : Nat} (hj : j < L.length) : ckIv L B ks (j : Int) = true := by
  obtain ⟨⟨a1, a2⟩, ⟨b1, b2⟩, _⟩ := h.2 j hj
  have e : rwL L (j : Int) = Sx.rowAt L j := by unfold rwL; rw [Int.toNat_natCast]
  unfold ckIv
  rw [e]
  exact decide_eq_true ⟨⟨rfl, rfl⟩, ⟨by omega, by omega⟩, ⟨by omega, by omega⟩, hB⟩
open Classical in
theorem ckIm_ok (h : okT L) {j : Nat} (hj : j < L.length) : ckIm L ks (j : Int) = true := by
  obtain ⟨⟨a1, a2⟩, ⟨b1, b2⟩, _⟩ := h.2 j hj
  have e : rwL L (j : Int) = Sx.rowAt L j := by unfold rwL; rw [Int.toNat_natCast]
  unfold ckIm
  rw [e]
  exact decide_eq_true ⟨⟨rfl, rfl⟩, ⟨by omega, by omega⟩, by omega, by omega⟩
theorem ckBv_ok {B : List (List CV)} (hB : B.length ≤ 1000) : ckBv B = true := by
  unfold ckBv roomB
  rw [decide_eq_true (show (vA B).len = B.length * 3 from rfl)]; exact decide_eq_true ⟨by omega, by omega⟩
theorem ckPv_ok {P : List (List CV)} (hP : P.length ≤ 1000) : ckPv P P.length = true := by
  unfold ckPv roomB
  rw [decide_eq_true (show (vS P).len = P.length * 5 from rfl)]; exact decide_eq_true ⟨by omega, by omega⟩
theorem step_x (h : okT L) {j : Nat} (hj : j < L.length) : Tri Tryz.prog loopQ (sMof (prX X L p) 3 L.length (j : Int) (plN L ks0 j).ks (plN L ks0 j).P (plN L ks0 j).B).toA .normal (sMof (prX X L p) 3 L.length ((j + 1 : Nat) : Int) (plN L ks0 (j + 1)).ks (plN L ks0 (j + 1)).P (plN L ks0 (j + 1)).B).toA 3 := by
  have hn := plN_len L ks0 j
  have hl := h.1
  have hlt : decide ((j : Int) < (L.length : Int)) = true := decide_eq_true (by omega)
  have hm := ckM_ok h hj
  rw [plN, ← up1_nat (show j < 1099511627776 by omega)]
  generalize plN L ks0 j = S at *
  obtain ⟨P, B, ks⟩ := S
  simp only at hn ⊢
  have hi := ckIn_ok (ks := ks) h hj
  have hv := ckIv_ok (ks := ks) (B := B) h (by omega) hj
  have him := ckIm_ok (ks := ks) h hj
  have hb := ckBv_ok (B := B) (by omega)
  have hp := ckPv_ok (P := P) (by omega)
  cases ha : arL L (j : Int) with
  | false =>
    rw [bcT (b := !false) rfl, sM_appB]
    cases P with
    | nil => cases B with
      | nil => exact n_sound (tPl_ok ks [] (rwL L (j : Int))) ((qx00 (L := L) (B := []) (ks := ks) (m := L.length) (i := (j : Int)) (X := X) (p := p)).trans (by rw [bcT hlt, chks_true hm, ha, bcT (b := !false) rfl]; try rfl))
      | cons y B => exact n_sound (tPl_ok ks (y :: B) (rwL L (j : Int))) ((qx01 (L := L) (B := (y :: B)) (ks := ks) (m := L.length) (i := (j : Int)) (X := X) (p := p)).trans (by rw [bcT hlt, chks_true hm, ha, bcT (b := !false) rfl, chks_true (all1 hb)]; try rfl))
    | cons x P => cases B with
      | nil => exact n_sound (tPl_ok ks [] (rwL L (j : Int))) ((qx10 (L := L) (B := []) (P := x :: P) (a := (x :: P).length) (ks := ks) (m := L.length) (i := (j : Int)) (X := X) (p := p)).trans (by rw [bcT hlt, chks_true hm, ha, bcT (b := !false) rfl]; try rfl))
      | cons y B => exact n_sound (tPl_ok ks (y :: B) (rwL L (j : Int))) ((qx11 (L := L) (B := (y :: B)) (P := x :: P) (a := (x :: P).length) (ks := ks) (m := L.length) (i := (j : Int)) (X := X) (p := p)).trans (by rw [bcT hlt, chks_true hm, ha, bcT (b := !false) rfl, chks_true (all1 hb)]; try rfl))
  | true =>
    rw [bcF (b := !true) rfl]
    cases hh : hitL L ks (j : Int) with
    | true =>
      rw [bcT (b := true) rfl, sM_appB]
      cases P with
      | nil => cases B with
        | nil => exact n_sound (tPl_ok ks [] (rwL L (j : Int))) ((qx00 (L := L) (B := []) (ks := ks) (m := L.length) (i := (j : Int)) (X := X) (p := p)).trans (by rw [bcT hlt, chks_true hm, ha, bcF (b := !true) rfl, chks_true (all1 hi), bcT hh]; try rfl))
        | cons y B => exact n_sound (tPl_ok ks (y :: B) (rwL L (j : Int))) ((qx01 (L := L) (B := (y :: B)) (ks := ks) (m := L.length) (i := (j : Int)) (X := X) (p := p)).trans (by rw [bcT hlt, chks_true hm, ha, bcF (b := !true) rfl, chks_true (all1 hv), bcT hh]; try rfl))
      | cons x P => cases B with
        | nil => exact n_sound (tPl_ok ks [] (rwL L (j : Int))) ((qx10 (L := L) (B := []) (P := x :: P) (a := (x :: P).length) (ks := ks) (m := L.length) (i := (j : Int)) (X := X) (p := p)).trans (by rw [bcT hlt, chks_true hm, ha, bcF (b := !true) rfl, chks_true (all1 hi), bcT hh]; try rfl))
        | cons y B => exact n_sound (tPl_ok ks (y :: B) (rwL L (j : Int))) ((qx11 (L := L) (B := (y :: B)) (P := x :: P) (a := (x :: P).length) (ks := ks) (m := L.length) (i := (j : Int)) (X := X) (p := p)).trans (by rw [bcT hlt, chks_true hm, ha, bcF (b := !true) rfl, chks_true (all1 hv), bcT hh]; try rfl))
    | false =>
      rw [bcF (b := false) rfl, sM_appP]
      cases P with
      | nil => cases B with
        | nil => exact n_sound (tPl_ok ks [] (rwL L (j : Int))) ((qx00 (L := L) (B := []) (ks := ks) (m := L.length) (i := (j : Int)) (X := X) (p := p)).trans (by rw [bcT hlt, chks_true hm, ha, bcF (b := !true) rfl, chks_true (all1 hi), bcF hh, chks_true (all1 him)]; try rfl))
        | cons y B => exact n_sound (tPl_ok ks (y :: B) (rwL L (j : Int))) ((qx01 (L := L) (B := (y :: B)) (ks := ks) (m := L.length) (i := (j : Int)) (X := X) (p := p)).trans (by rw [bcT hlt, chks_true hm, ha, bcF (b := !true) rfl, chks_true (all1 hv), bcF hh, chks_true (all1 him)]; try rfl))
      | cons x P => cases B with
        | nil => exact n_sound (tPl_ok ks [] (rwL L (j : Int))) ((qx10 (L := L) (B := []) (P := x :: P) (a := (x :: P).length) (ks := ks) (m := L.length) (i := (j : Int)) (X := X) (p := p)).trans (by rw [bcT hlt, chks_true hm, ha, bcF (b := !true) rfl, chks_true (all1 hi), bcF hh, chks_true (all1 him), chks_true (all1 hp)]; try rfl))
        | cons y B => exact n_sound (tPl_ok ks (y :: B) (rwL L (j : Int))) ((qx11 (L := L) (B := (y :: B)) (P := x :: P) (a := (x :: P).length) (ks := ks) (m := L.length) (i := (j : Int)) (X := X) (p := p)).trans (by rw [bcT hlt, chks_true hm, ha, bcF (b := !true) rfl, chks_true (all1 hv), bcF hh, chks_true (all1 him), chks_true (all1 hp)]; try rfl))
theorem last_x : Tri Tryz.prog loopQ (sMof (prX X L p) 3 L.length (L.length : Int) (plN L ks0 L.length).ks (plN L ks0 L.length).P (plN L ks0 L.length).B).toA (.exit 2) (sMXof (prX X L p) 3 (plN L ks0 L.length).P (plN L ks0 L.length).B).toA 3 := by
  have hlt : decide ((L.length : Int) < (L.length : Int)) = false := decide_eq_false (by omega)
  generalize plN L ks0 L.length = S
  obtain ⟨P, B, ks⟩ := S
  simp only
  cases P with
  | nil => cases B with
    | nil => exact n_sound (tPl_ok ks [] (rwL L (L.length : Int))) ((qx00 (L := L) (B := []) (ks := ks) (m := L.length) (i := (L.length : Int)) (X := X) (p := p)).trans (by rw [bcF hlt]; try rfl))
    | cons y B => exact n_sound (tPl_ok ks (y :: B) (rwL L (L.length : Int))) ((qx01 (L := L) (B := (y :: B)) (ks := ks) (m := L.length) (i := (L.length : Int)) (X := X) (p := p)).trans (by rw [bcF hlt]; try rfl))
  | cons x P => cases B with
    | nil => exact n_sound (tPl_ok ks [] (rwL L (L.length : Int))) ((qx10 (L := L) (B := []) (P := x :: P) (a := (x :: P).length) (ks := ks) (m := L.length) (i := (L.length : Int)) (X := X) (p := p)).trans (by rw [bcF hlt]; try rfl))
    | cons y B => exact n_sound (tPl_ok ks (y :: B) (rwL L (L.length : Int))) ((qx11 (L := L) (B := (y :: B)) (P := x :: P) (a := (x :: P).length) (ks := ks) (m := L.length) (i := (L.length : Int)) (X := X) (p := p)).trans (by rw [bcF hlt]; try rfl))
theorem loop_x (h : okT L) : Tri Tryz.prog (.loop loopQ) (sMof (prX X L p) 3 L.length 0 ks0 [] []).toA (.exit 2) (sMXof (prX X L p) 3 (plN L ks0 L.length).P (plN L ks0 L.length).B).toA 3 :=
  tri_up (body := loopQ) (fun j => (sMof (prX X L p) 3 L.length (j : Int) (plN L ks0 j).ks (plN L ks0 j).P (plN L ks0 j).B).toA) (fun e => by cases e) L.length (fun k hk => step_x h hk) last_x 0 (Nat.zero_le _)
theorem step_y (h : okT L) {j : Nat} (hj : j < L.length) : Tri Tryz.prog loopQ (sMof (prY Y L q) 3 L.length (j : Int) (plN L ks0 j).ks (plN L ks0 j).P (plN L ks0 j).B).toA .normal (sMof (prY Y L q) 3 L.length ((j + 1 : Nat) : Int) (plN L ks0 (j + 1)).ks (plN L ks0 (j + 1)).P (plN L ks0 (j + 1)).B).toA 3 := by
  have hn := plN_len L ks0 j
  have hl := h.1
  have hlt : decide ((j : Int) < (L.length : Int)) = true := decide_eq_true (by omega)
  have hm := ckM_ok h hj
  rw [plN, ← up1_nat (show j < 1099511627776 by omega)]
  generalize plN L ks0 j = S at *
  obtain ⟨P, B, ks⟩ := S
  simp only at hn ⊢
  have hi := ckIn_ok (ks := ks) h hj
  have hv := ckIv_ok (ks := ks) (B := B) h (by omega) hj
  have him := ckIm_ok (ks := ks) h hj
  have hb := ckBv_ok (B := B) (by omega)
  have hp := ckPv_ok (P := P) (by omega)
  cases ha : arL L (j : Int) with
  | false =>
    rw [bcT (b := !false) rfl, sM_appB]
    cases P with
    | nil => cases B with
      | nil => exact n_sound (tPl_ok ks [] (rwL L (j : Int))) ((qy00 (L := L) (B := []) (ks := ks) (m := L.length) (i := (j : Int)) (Y := Y) (q := q)).trans (by rw [bcT hlt, chks_true hm, ha, bcT (b := !false) rfl]; try rfl))
      | cons y B => exact n_sound (tPl_ok ks (y :: B) (rwL L (j : Int))) ((qy01 (L := L) (B := (y :: B)) (ks := ks) (m := L.length) (i := (j : Int)) (Y := Y) (q := q)).trans (by rw [bcT hlt, chks_true hm, ha, bcT (b := !false) rfl, chks_true (all1 hb)]; try rfl))
    | cons x P => cases B with
      | nil => exact n_sound (tPl_ok ks [] (rwL L (j : Int))) ((qy10 (L := L) (B := []) (P := x :: P) (a := (x :: P).length) (ks := ks) (m := L.length) (i := (j : Int)) (Y := Y) (q := q)).trans (by rw [bcT hlt, chks_true hm, ha, bcT (b := !false) rfl]; try rfl))
      | cons y B => exact n_sound (tPl_ok ks (y :: B) (rwL L (j : Int))) ((qy11 (L := L) (B := (y :: B)) (P := x :: P) (a := (x :: P).length) (ks := ks) (m := L.length) (i := (j : Int)) (Y := Y) (q := q)).trans (by rw [bcT hlt, chks_true hm, ha, bcT (b := !false) rfl, chks_true (all1 hb)]; try rfl))
  | true =>
    rw [bcF (b := !true) rfl]
    cases hh : hitL L ks (j : Int) with
    | true =>
      rw [bcT (b := true) rfl, sM_appB]
      cases P with
      | nil => cases B with
        | nil => exact n_sound (tPl_ok ks [] (rwL L (j : Int))) ((qy00 (L := L) (B := []) (ks := ks) (m := L.length) (i := (j : Int)) (Y := Y) (q := q)).trans (by rw [bcT hlt, chks_true hm, ha, bcF (b := !true) rfl, chks_true (all1 hi), bcT hh]; try rfl))
        | cons y B => exact n_sound (tPl_ok ks (y :: B) (rwL L (j : Int))) ((qy01 (L := L) (B := (y :: B)) (ks := ks) (m := L.length) (i := (j : Int)) (Y := Y) (q := q)).trans (by rw [bcT hlt, chks_true hm, ha, bcF (b := !true) rfl, chks_true (all1 hv), bcT hh]; try rfl))
      | cons x P => cases B with
        | nil => exact n_sound (tPl_ok ks [] (rwL L (j : Int))) ((qy10 (L := L) (B := []) (P := x :: P) (a := (x :: P).length) (ks := ks) (m := L.length) (i := (j : Int)) (Y := Y) (q := q)).trans (by rw [bcT hlt, chks_true hm, ha, bcF (b := !true) rfl, chks_true (all1 hi), bcT hh]; try rfl))
        | cons y B => exact n_sound (tPl_ok ks (y :: B) (rwL L (j : Int))) ((qy11 (L := L) (B := (y :: B)) (P := x :: P) (a := (x :: P).length) (ks := ks) (m := L.length) (i := (j : Int)) (Y := Y) (q := q)).trans (by rw [bcT hlt, chks_true hm, ha, bcF (b := !true) rfl, chks_true (all1 hv), bcT hh]; try rfl))
    | false =>
      rw [bcF (b := false) rfl, sM_appP]
      cases P with
      | nil => cases B with
        | nil => exact n_sound (tPl_ok ks [] (rwL L (j : Int))) ((qy00 (L := L) (B := []) (ks := ks) (m := L.length) (i := (j : Int)) (Y := Y) (q := q)).trans (by rw [bcT hlt, chks_true hm, ha, bcF (b := !true) rfl, chks_true (all1 hi), bcF hh, chks_true (all1 him)]; try rfl))
        | cons y B => exact n_sound (tPl_ok ks (y :: B) (rwL L (j : Int))) ((qy01 (L := L) (B := (y :: B)) (ks := ks) (m := L.length) (i := (j : Int)) (Y := Y) (q := q)).trans (by rw [bcT hlt, chks_true hm, ha, bcF (b := !true) rfl, chks_true (all1 hv), bcF hh, chks_true (all1 him)]; try rfl))
      | cons x P => cases B with
        | nil => exact n_sound (tPl_ok ks [] (rwL L (j : Int))) ((qy10 (L := L) (B := []) (P := x :: P) (a := (x :: P).length) (ks := ks) (m := L.length) (i := (j : Int)) (Y := Y) (q := q)).trans (by rw [bcT hlt, chks_true hm, ha, bcF (b := !true) rfl, chks_true (all1 hi), bcF hh, chks_true (all1 him), chks_true (all1 hp)]; try rfl))
        | cons y B => exact n_sound (tPl_ok ks (y :: B) (rwL L (j : Int))) ((qy11 (L := L) (B := (y :: B)) (P := x :: P) (a := (x :: P).length) (ks := ks) (m := L.length) (i := (j : Int)) (Y := Y) (q := q)).trans (by rw [bcT hlt, chks_true hm, ha, bcF (b := !true) rfl, chks_true (all1 hv), bcF hh, chks_true (all1 him), chks_true (all1 hp)]; try rfl))
theorem last_y : Tri Tryz.prog loopQ (sMof (prY Y L q) 3 L.length (L.length : Int) (plN L ks0 L.length).ks (plN L ks0 L.length).P (plN L ks0 L.length).B).toA (.exit 2) (sMXof (prY Y L q) 3 (plN L ks0 L.length).P (plN L ks0 L.length).B).toA 3 := by
  have hlt : decide ((L.length : Int) < (L.length : Int)) = false := decide_eq_false (by omega)
  generalize plN L ks0 L.length = S
  obtain ⟨P, B, ks⟩ := S
  simp only
  cases P with
  | nil => cases B with
    | nil => exact n_sound (tPl_ok ks [] (rwL L (L.length : Int))) ((qy00 (L := L) (B := []) (ks := ks) (m := L.length) (i := (L.length : Int)) (Y := Y) (q := q)).trans (by rw [bcF hlt]; try rfl))
    | cons y B => exact n_sound (tPl_ok ks (y :: B) (rwL L (L.length : Int))) ((qy01 (L := L) (B := (y :: B)) (ks := ks) (m := L.length) (i := (L.length : Int)) (Y := Y) (q := q)).trans (by rw [bcF hlt]; try rfl))
  | cons x P => cases B with
    | nil => exact n_sound (tPl_ok ks [] (rwL L (L.length : Int))) ((qy10 (L := L) (B := []) (P := x :: P) (a := (x :: P).length) (ks := ks) (m := L.length) (i := (L.length : Int)) (Y := Y) (q := q)).trans (by rw [bcF hlt]; try rfl))
    | cons y B => exact n_sound (tPl_ok ks (y :: B) (rwL L (L.length : Int))) ((qy11 (L := L) (B := (y :: B)) (P := x :: P) (a := (x :: P).length) (ks := ks) (m := L.length) (i := (L.length : Int)) (Y := Y) (q := q)).trans (by rw [bcF hlt]; try rfl))
theorem loop_y (h : okT L) : Tri Tryz.prog (.loop loopQ) (sMof (prY Y L q) 3 L.length 0 ks0 [] []).toA (.exit 2) (sMXof (prY Y L q) 3 (plN L ks0 L.length).P (plN L ks0 L.length).B).toA 3 :=
  tri_up (body := loopQ) (fun j => (sMof (prY Y L q) 3 L.length (j : Int) (plN L ks0 j).ks (plN L ks0 j).P (plN L ks0 j).B).toA) (fun e => by cases e) L.length (fun k hk => step_y h hk) last_y 0 (Nat.zero_le _)
theorem step_b (h : okT L) {j : Nat} (hj : j < L.length) : Tri Tryz.prog loopQ (sMof (prB X Y L p q) 4 L.length (j : Int) (plN L ks0 j).ks (plN L ks0 j).P (plN L ks0 j).B).toA .normal (sMof (prB X Y L p q) 4 L.length ((j + 1 : Nat) : Int) (plN L ks0 (j + 1)).ks (plN L ks0 (j + 1)).P (plN L ks0 (j + 1)).B).toA 4 := by
  have hn := plN_len L ks0 j
  have hl := h.1
  have hlt : decide ((j : Int) < (L.length : Int)) = true := decide_eq_true (by omega)
  have hm := ckM_ok h hj
  rw [plN, ← up1_nat (show j < 1099511627776 by omega)]
  generalize plN L ks0 j = S at *
  obtain ⟨P, B, ks⟩ := S
  simp only at hn ⊢
  have hi := ckIn_ok (ks := ks) h hj
  have hv := ckIv_ok (ks := ks) (B := B) h (by omega) hj
  have him := ckIm_ok (ks := ks) h hj
  have hb := ckBv_ok (B := B) (by omega)
  have hp := ckPv_ok (P := P) (by omega)
  cases ha : arL L (j : Int) with
  | false =>
    rw [bcT (b := !false) rfl, sM_appB]
    cases P with
    | nil => cases B with
      | nil => exact n_sound (tPl_ok ks [] (rwL L (j : Int))) ((qb00 (L := L) (B := []) (ks := ks) (m := L.length) (i := (j : Int)) (X := X) (Y := Y) (p := p) (q := q)).trans (by rw [bcT hlt, chks_true hm, ha, bcT (b := !false) rfl]; try rfl))
      | cons y B => exact n_sound (tPl_ok ks (y :: B) (rwL L (j : Int))) ((qb01 (L := L) (B := (y :: B)) (ks := ks) (m := L.length) (i := (j : Int)) (X := X) (Y := Y) (p := p) (q := q)).trans (by rw [bcT hlt, chks_true hm, ha, bcT (b := !false) rfl, chks_true (all1 hb)]; try rfl))
    | cons x P => cases B with
      | nil => exact n_sound (tPl_ok ks [] (rwL L (j : Int))) ((qb10 (L := L) (B := []) (P := x :: P) (a := (x :: P).length) (ks := ks) (m := L.length) (i := (j : Int)) (X := X) (Y := Y) (p := p) (q := q)).trans (by rw [bcT hlt, chks_true hm, ha, bcT (b := !false) rfl]; try rfl))
      | cons y B => exact n_sound (tPl_ok ks (y :: B) (rwL L (j : Int))) ((qb11 (L := L) (B := (y :: B)) (P := x :: P) (a := (x :: P).length) (ks := ks) (m := L.length) (i := (j : Int)) (X := X) (Y := Y) (p := p) (q := q)).trans (by rw [bcT hlt, chks_true hm, ha, bcT (b := !false) rfl, chks_true (all1 hb)]; try rfl))
  | true =>
    rw [bcF (b := !true) rfl]
    cases hh : hitL L ks (j : Int) with
    | true =>
      rw [bcT (b := true) rfl, sM_appB]
      cases P with
      | nil => cases B with
        | nil => exact n_sound (tPl_ok ks [] (rwL L (j : Int))) ((qb00 (L := L) (B := []) (ks := ks) (m := L.length) (i := (j : Int)) (X := X) (Y := Y) (p := p) (q := q)).trans (by rw [bcT hlt, chks_true hm, ha, bcF (b := !true) rfl, chks_true (all1 hi), bcT hh]; try rfl))
        | cons y B => exact n_sound (tPl_ok ks (y :: B) (rwL L (j : Int))) ((qb01 (L := L) (B := (y :: B)) (ks := ks) (m := L.length) (i := (j : Int)) (X := X) (Y := Y) (p := p) (q := q)).trans (by rw [bcT hlt, chks_true hm, ha, bcF (b := !true) rfl, chks_true (all1 hv), bcT hh]; try rfl))
      | cons x P => cases B with
        | nil => exact n_sound (tPl_ok ks [] (rwL L (j : Int))) ((qb10 (L := L) (B := []) (P := x :: P) (a := (x :: P).length) (ks := ks) (m := L.length) (i := (j : Int)) (X := X) (Y := Y) (p := p) (q := q)).trans (by rw [bcT hlt, chks_true hm, ha, bcF (b := !true) rfl, chks_true (all1 hi), bcT hh]; try rfl))
        | cons y B => exact n_sound (tPl_ok ks (y :: B) (rwL L (j : Int))) ((qb11 (L := L) (B := (y :: B)) (P := x :: P) (a := (x :: P).length) (ks := ks) (m := L.length) (i := (j : Int)) (X := X) (Y := Y) (p := p) (q := q)).trans (by rw [bcT hlt, chks_true hm, ha, bcF (b := !true) rfl, chks_true (all1 hv), bcT hh]; try rfl))
    | false =>
      rw [bcF (b := false) rfl, sM_appP]
      cases P with
      | nil => cases B with
        | nil => exact n_sound (tPl_ok ks [] (rwL L (j : Int))) ((qb00 (L := L) (B := []) (ks := ks) (m := L.length) (i := (j : Int)) (X := X) (Y := Y) (p := p) (q := q)).trans (by rw [bcT hlt, chks_true hm, ha, bcF (b := !true) rfl, chks_true (all1 hi), bcF hh, chks_true (all1 him)]; try rfl))
        | cons y B => exact n_sound (tPl_ok ks (y :: B) (rwL L (j : Int))) ((qb01 (L := L) (B := (y :: B)) (ks := ks) (m := L.length) (i := (j : Int)) (X := X) (Y := Y) (p := p) (q := q)).trans (by rw [bcT hlt, chks_true hm, ha, bcF (b := !true) rfl, chks_true (all1 hv), bcF hh, chks_true (all1 him)]; try rfl))
      | cons x P => cases B with
        | nil => exact n_sound (tPl_ok ks [] (rwL L (j : Int))) ((qb10 (L := L) (B := []) (P := x :: P) (a := (x :: P).length) (ks := ks) (m := L.length) (i := (j : Int)) (X := X) (Y := Y) (p := p) (q := q)).trans (by rw [bcT hlt, chks_true hm, ha, bcF (b := !true) rfl, chks_true (all1 hi), bcF hh, chks_true (all1 him), chks_true (all1 hp)]; try rfl))
        | cons y B => exact n_sound (tPl_ok ks (y :: B) (rwL L (j : Int))) ((qb11 (L := L) (B := (y :: B)) (P := x :: P) (a := (x :: P).length) (ks := ks) (m := L.length) (i := (j : Int)) (X := X) (Y := Y) (p := p) (q := q)).trans (by rw [bcT hlt, chks_true hm, ha, bcF (b := !true) rfl, chks_true (all1 hv), bcF hh, chks_true (all1 him), chks_true (all1 hp)]; try rfl))
theorem last_b : Tri Tryz.prog loopQ (sMof (prB X Y L p q) 4 L.length (L.length : Int) (plN L ks0 L.length).ks (plN L ks0 L.length).P (plN L ks0 L.length).B).toA (.exit 2) (sMXof (prB X Y L p q) 4 (plN L ks0 L.length).P (plN L ks0 L.length).B).toA 4 := by
  have hlt : decide ((L.length : Int) < (L.length : Int)) = false := decide_eq_false (by omega)
  generalize plN L ks0 L.length = S
  obtain ⟨P, B, ks⟩ := S
  simp only
  cases P with
  | nil => cases B with
    | nil => exact n_sound (tPl_ok ks [] (rwL L (L.length : Int))) ((qb00 (L := L) (B := []) (ks := ks) (m := L.length) (i := (L.length : Int)) (X := X) (Y := Y) (p := p) (q := q)).trans (by rw [bcF hlt]; try rfl))
    | cons y B => exact n_sound (tPl_ok ks (y :: B) (rwL L (L.length : Int))) ((qb01 (L := L) (B := (y :: B)) (ks := ks) (m := L.length) (i := (L.length : Int)) (X := X) (Y := Y) (p := p) (q := q)).trans (by rw [bcF hlt]; try rfl))
  | cons x P => cases B with
    | nil => exact n_sound (tPl_ok ks [] (rwL L (L.length : Int))) ((qb10 (L := L) (B := []) (P := x :: P) (a := (x :: P).length) (ks := ks) (m := L.length) (i := (L.length : Int)) (X := X) (Y := Y) (p := p) (q := q)).trans (by rw [bcF hlt]; try rfl))
    | cons y B => exact n_sound (tPl_ok ks (y :: B) (rwL L (L.length : Int))) ((qb11 (L := L) (B := (y :: B)) (P := x :: P) (a := (x :: P).length) (ks := ks) (m := L.length) (i := (L.length : Int)) (X := X) (Y := Y) (p := p) (q := q)).trans (by rw [bcF hlt]; try rfl))
theorem loop_b (h : okT L) : Tri Tryz.prog (.loop loopQ) (sMof (prB X Y L p q) 4 L.length 0 ks0 [] []).toA (.exit 2) (sMXof (prB X Y L p q) 4 (plN L ks0 L.length).P (plN L ks0 L.length).B).toA 4 :=
  tri_up (body := loopQ) (fun j => (sMof (prB X Y L p q) 4 L.length (j : Int) (plN L ks0 j).ks (plN L ks0 j).P (plN L ks0 j).B).toA) (fun e => by cases e) L.length (fun k hk => step_b h hk) last_b 0 (Nat.zero_le _)
end
end Go.Proofs.YtphhepnldndbhaaGreatDoor

/- Layer 14: spill.Place: the places that are taken at first (written by gen_spw.py). -/
set_option linter.unusedVariables false
set_option linter.unusedSimpArgs false
set_option linter.unusedSectionVars false
namespace Go.Proofs.YtphhepnldndbhaaGreatDoor
open Go Sx
noncomputable abbrev loopT : Code := (loopBodies (bodyOf Tryz.f14)).headD .skip
abbrev kT : Nat → Bool := fun n => hasN [1, 9, 28, 29, 30] n
abbrev kTX : Nat → Bool := fun n => hasN [1, 9] n
def sT (pre : List (Option PObj)) (K : Nat) (own : AV) (nc : Nat) (i : Int) (C : List (List CV)) (ks : List (List Int)) : PState := ⟨none :: some own :: nn 7 ++ (some (.ptr K 0) :: nn 18 ++ (some (.vec (K + 1) nc) :: some (.int .i64 (nc : Int)) :: some (.int .i64 i) :: nn 55)), pre ++ (some (oP1 (.mapp (K + 2)) 71) :: some (vA C) :: some (oM ks) :: nn 64)⟩
def sTX (pre : List (Option PObj)) (K : Nat) (own : AV) (ks : List (List Int)) : PState := ⟨none :: some own :: nn 7 ++ (some (.ptr K 0) :: nn 76), pre ++ (some (oP1 (.mapp (K + 1)) 71) :: some (oM ks) :: nn 64)⟩
/-- The keys of so many places. -/
def tkN (C : List (List CV)) : Nat → List (List Int)
  | 0 => []
  | j + 1 => addK (tkN C j) [c0 (Sx.rowAt C j), c1 (Sx.rowAt C j), c2 (Sx.rowAt C j)]
section
variable (X Y L C : List (List CV)) (ks : List (List Int)) (p q m n : Nat) (i : Int)
theorem tx0 : code (ent Tryz.prog [] nolv 64 1 20) Tryz.prog {} 2 64 1 loopT (sT (pX X p) 2 .nilslice n i C ks) (endK 2 64 kT kTX) = bcond (decide (i < (n : Int))) (chks (some (.normal, sT (pX X p) 2 .nilslice n (up1 i) C (addK ks [c0 (Sx.rowAt C i.toNat), c1 (Sx.rowAt C i.toNat), c2 (Sx.rowAt C i.toNat)]))) (ckR C n i)) (some (.exit 0, sTX (pX X p) 2 .nilslice ks)) := by kernel_rfl
theorem tx1 : code (ent Tryz.prog [] nolv 64 1 20) Tryz.prog {} 3 64 1 loopT (sT (prX X L p) 3 (.vec 1 m) n i C ks) (endK 3 64 kT kTX) = bcond (decide (i < (n : Int))) (chks (some (.normal, sT (prX X L p) 3 (.vec 1 m) n (up1 i) C (addK ks [c0 (Sx.rowAt C i.toNat), c1 (Sx.rowAt C i.toNat), c2 (Sx.rowAt C i.toNat)]))) (ckR C n i)) (some (.exit 0, sTX (prX X L p) 3 (.vec 1 m) ks)) := by kernel_rfl
theorem ty0 : code (ent Tryz.prog [] nolv 64 1 20) Tryz.prog {} 2 64 1 loopT (sT (pY Y q) 2 .nilslice n i C ks) (endK 2 64 kT kTX) = bcond (decide (i < (n : Int))) (chks (some (.normal, sT (pY Y q) 2 .nilslice n (up1 i) C (addK ks [c0 (Sx.rowAt C i.toNat), c1 (Sx.rowAt C i.toNat), c2 (Sx.rowAt C i.toNat)]))) (ckR C n i)) (some (.exit 0, sTX (pY Y q) 2 .nilslice ks)) := by kernel_rfl
theorem ty1 : code (ent Tryz.prog [] nolv 64 1 20) Tryz.prog {} 3 64 1 loopT (sT (prY Y L q) 3 (.vec 1 m) n i C ks) (endK 3 64 kT kTX) = bcond (decide (i < (n : Int))) (chks (some (.normal, sT (prY Y L q) 3 (.vec 1 m) n (up1 i) C (addK ks [c0 (Sx.rowAt C i.toNat), c1 (Sx.rowAt C i.toNat), c2 (Sx.rowAt C i.toNat)]))) (ckR C n i)) (some (.exit 0, sTX (prY Y L q) 3 (.vec 1 m) ks)) := by kernel_rfl
theorem tb0 : code (ent Tryz.prog [] nolv 64 1 20) Tryz.prog {} 3 64 1 loopT (sT (pXY X Y p q) 3 .nilslice n i C ks) (endK 3 64 kT kTX) = bcond (decide (i < (n : Int))) (chks (some (.normal, sT (pXY X Y p q) 3 .nilslice n (up1 i) C (addK ks [c0 (Sx.rowAt C i.toNat), c1 (Sx.rowAt C i.toNat), c2 (Sx.rowAt C i.toNat)]))) (ckR C n i)) (some (.exit 0, sTX (pXY X Y p q) 3 .nilslice ks)) := by kernel_rfl
theorem tb1 : code (ent Tryz.prog [] nolv 64 1 20) Tryz.prog {} 4 64 1 loopT (sT (prB X Y L p q) 4 (.vec 1 m) n i C ks) (endK 4 64 kT kTX) = bcond (decide (i < (n : Int))) (chks (some (.normal, sT (prB X Y L p q) 4 (.vec 1 m) n (up1 i) C (addK ks [c0 (Sx.rowAt C i.toNat), c1 (Sx.rowAt C i.toNat), c2 (Sx.rowAt C i.toNat)]))) (ckR C n i)) (some (.exit 0, sTX (prB X Y L p q) 4 (.vec 1 m) ks)) := by kernel_rfl
end
section
variable {X Y L C : List (List CV)} {p q m : Nat}
theorem lt_tx0 (hn : C.length ≤ 1000) : Tri Tryz.prog (.loop loopT) (sT (pX X p) 2 .nilslice C.length 0 C []).toA (.exit 0) (sTX (pX X p) 2 .nilslice (tkN C C.length)).toA 2 :=
  tri_up (body := loopT) (fun j => (sT (pX X p) 2 .nilslice C.length (j : Int) C (tkN C j)).toA) (fun e => by cases e) C.length (fun j hj => n_sound (T := []) .nil ((tx0 (X := X) (p := p) (C := C) (ks := tkN C j) (n := C.length) (i := (j : Int))).trans (by
    rw [bcT (decide_eq_true (by omega)), chks_true (ckR_ok hj), up1_nat (by omega), Int.toNat_natCast]; rfl))) (n_sound (T := []) .nil ((tx0 (X := X) (p := p) (C := C) (ks := tkN C C.length) (n := C.length) (i := (C.length : Int))).trans (by rw [bcF (decide_eq_false (by omega))]))) 0 (Nat.zero_le _)
theorem lt_tx1 (hn : C.length ≤ 1000) : Tri Tryz.prog (.loop loopT) (sT (prX X L p) 3 (.vec 1 m) C.length 0 C []).toA (.exit 0) (sTX (prX X L p) 3 (.vec 1 m) (tkN C C.length)).toA 3 :=
  tri_up (body := loopT) (fun j => (sT (prX X L p) 3 (.vec 1 m) C.length (j : Int) C (tkN C j)).toA) (fun e => by cases e) C.length (fun j hj => n_sound (T := []) .nil ((tx1 (X := X) (p := p) (L := L) (m := m) (C := C) (ks := tkN C j) (n := C.length) (i := (j : Int))).trans (by
    rw [bcT (decide_eq_true (by omega)), chks_true (ckR_ok hj), up1_nat (by omega), Int.toNat_natCast]; rfl))) (n_sound (T := []) .nil ((tx1 (X := X) (p := p) (L := L) (m := m) (C := C) (ks := tkN C C.length) (n := C.length) (i := (C.length : Int))).trans (by rw [bcF (decide_eq_false (by omega))]))) 0 (Nat.zero_le _)
theorem lt_ty0 (hn : C.length ≤ 1000) : Tri Tryz.prog (.loop loopT) (sT (pY Y q) 2 .nilslice C.length 0 C []).toA (.exit 0) (sTX (pY Y q) 2 .nilslice (tkN C C.length)).toA 2 :=
  tri_up (body := loopT) (fun j => (sT (pY Y q) 2 .nilslice C.length (j : Int) C (tkN C j)).toA) (fun e => by cases e) C.length (fun j hj => n_sound (T := []) .nil ((ty0 (Y := Y) (q := q) (C := C) (ks := tkN C j) (n := C.length) (i := (j : Int))).trans (by
    rw [bcT (decide_eq_true (by omega)), chks_true (ckR_ok hj), up1_nat (by omega), Int.toNat_natCast]; rfl))) (n_sound (T := []) .nil ((ty0 (Y := Y) (q := q) (C := C) (ks := tkN C C.length) (n := C.length) (i := (C.length : Int))).trans (by rw [bcF (decide_eq_false (by omega))]))) 0 (Nat.zero_le _)
theorem lt_ty1 (hn : C.length ≤ 1000) : Tri Tryz.prog (.loop loopT) (sT (prY Y L q) 3 (.vec 1 m) C.length 0 C []).toA (.exit 0) (sTX (prY Y L q) 3 (.vec 1 m) (tkN C C.length)).toA 3 :=
  tri_up (body := loopT) (fun j => (sT (prY Y L q) 3 (.vec 1 m) C.length (j : Int) C (tkN C j)).toA) (fun e => by cases e) C.length (fun j hj => n_sound (T := []) .nil ((ty1 (Y := Y) (q := q) (L := L) (m := m) (C := C) (ks := tkN C j) (n := C.length) (i := (j : Int))).trans (by
    rw [bcT (decide_eq_true (by omega)), chks_true (ckR_ok hj), up1_nat (by omega), Int.toNat_natCast]; rfl))) (n_sound (T := []) .nil ((ty1 (Y := Y) (q := q) (L := L) (m := m) (C := C) (ks := tkN C C.length) (n := C.length) (i := (C.length : Int))).trans (by rw [bcF (decide_eq_false (by omega))]))) 0 (Nat.zero_le _)
theorem lt_tb0 (hn : C.length ≤ 1000) : Tri Tryz.prog (.loop loopT) (sT (pXY X Y p q) 3 .nilslice C.length 0 C []).toA (.exit 0) (sTX (pXY X Y p q) 3 .nilslice (tkN C C.length)).toA 3 :=
  tri_up (body := loopT) (fun j => (sT (pXY X Y p q) 3 .nilslice C.length (j : Int) C (tkN C j)).toA) (fun e => by cases e) C.length (fun j hj => n_sound (T := []) .nil ((tb0 (X := X) (Y := Y) (p := p) (q := q) (C := C) (ks := tkN C j) (n := C.length) (i := (j : Int))).trans (by
    rw [bcT (decide_eq_true (by omega)), chks_true (ckR_ok hj), up1_nat (by omega), Int.toNat_natCast]; rfl))) (n_sound (T := []) .nil ((tb0 (X := X) (Y := Y) (p := p) (q := q) (C := C) (ks := tkN C C.length) (n := C.length) (i := (C.length : Int))).trans (by rw [bcF (decide_eq_false (by omega))]))) 0 (Nat.zero_le _)
theorem lt_tb1 (hn : C.length ≤ 1000) : Tri Tryz.prog (.loop loopT) (sT (prB X Y L p q) 4 (.vec 1 m) C.length 0 C []).toA (.exit 0) (sTX (prB X Y L p q) 4 (.vec 1 m) (tkN C C.length)).toA 4 :=
  tri_up (body := loopT) (fun j => (sT (prB X Y L p q) 4 (.vec 1 m) C.length (j : Int) C (tkN C j)).toA) (fun e => by cases e) C.length (fun j hj => n_sound (T := []) .nil ((tb1 (X := X) (Y := Y) (p := p) (q := q) (L := L) (m := m) (C := C) (ks := tkN C j) (n := C.length) (i := (j : Int))).trans (by
    rw [bcT (decide_eq_true (by omega)), chks_true (ckR_ok hj), up1_nat (by omega), Int.toNat_natCast]; rfl))) (n_sound (T := []) .nil ((tb1 (X := X) (Y := Y) (p := p) (q := q) (L := L) (m := m) (C := C) (ks := tkN C C.length) (n := C.length) (i := (C.length : Int))).trans (by rw [bcF (decide_eq_false (by omega))]))) 0 (Nat.zero_le _)
end
end Go.Proofs.YtphhepnldndbhaaGreatDoor

/- Layer 14: spill.Place: calls (written by gen_spx.py). -/
set_option linter.unusedVariables false
set_option linter.unusedSimpArgs false
set_option linter.unusedSectionVars false
namespace Go.Proofs.YtphhepnldndbhaaGreatDoor
open Go Sx
open Classical in
/-- The places of the cells, of one workbook. -/
noncomputable def eClq (pre : List PObj) (C : List (List CV)) : Ent := fun args pre' => .chk (decide ((args = [bkW] ∧ pre' = pre) ∧ Meets Tryz.prog 20 [bkW] (pre.map PObj.toA) (clV (.vec pre.length C.length)) ((pre ++ [vA C]).map PObj.toA))) (.ret (clV (.vec pre.length C.length)) (pre ++ [vA C]))
open Classical in
theorem eClq_ok (pre : List PObj) (C : List (List CV)) : EntOK Tryz.prog 20 (eClq pre C) := fun args pre' => by
  unfold eClq
  refine ⟨fun g => ?_, fun _ => trivial⟩
  obtain ⟨⟨rfl, rfl⟩, h⟩ := of_decide_eq_true g
  exact h
open Classical in
noncomputable def ckCl (pre : List PObj) (C : List (List CV)) : Bool := decide (([bkW] = [bkW] ∧ pre = pre) ∧ Meets Tryz.prog 20 [bkW] (pre.map PObj.toA) (clV (.vec pre.length C.length)) ((pre ++ [vA C]).map PObj.toA))
noncomputable def tPc (pre : List PObj) (C : List (List CV)) : Tab := [(20, eClq pre C), (27, eArt)]
theorem tPc_ok (pre : List PObj) (C : List (List CV)) : TabOK Tryz.prog (tPc pre C) := .cons (eClq_ok pre C) (.cons eArt_ok .nil)
noncomputable def lvP2 (K : Nat) (S6 : PState) (x6 : LAns) (S15 : PState) (x15 : LAns) : FuncId → Lv := lvOf 14 (fun i => if i = 6 then some [1, 9, 28, 29, 30] else if i = 15 then some [9, 12, 13, 41, 42, 43] else none) (twoL 6 (eAt K S6 x6) 15 (eAt K S15 x15))
/-- What the main loop comes to. -/
def outM (pre : List (Option PObj)) (K : Nat) (P B : List (List CV)) (a b : Nat) (c bP bB : Bool) : LAns := .chk c (.br bP (.br bB (.out (.exit 2) (sMX pre .nilslice K [some (oP1 .nilslice 22)])) (.out (.exit 2) (sMX pre .nilslice K [some (oP1 (.vec (K + 1) b) 22), some (vA B)])))
  (.br bB (.out (.exit 2) (sMX pre (.vec K a) (K + 1) [some (vS P), some (oP1 .nilslice 22)])) (.out (.exit 2) (sMX pre (.vec K a) (K + 1) [some (vS P), some (oP1 (.vec (K + 2) b) 22), some (vA B)]))))
abbrev plV (p q : AV) : AV := .tuple [p, q, .int .i64 0]
section
variable (X Y L C P B : List (List CV)) (ks : List (List Int)) (p q a b : Nat) (c1 c2 bP bB : Bool)
open Classical in
theorem pl_x : Comes (tPc [oSh (.vec 1 p) .nilslice, vC X] C) (lvP2 3 (sT (prX X L p) 3 (.vec 1 L.length) C.length 0 C []) (.chk c1 (.out (.exit 0) (sTX (prX X L p) 3 (.vec 1 L.length) ks))) (sMof (prX X L p) 3 L.length 0 ks [] []) (outM (prX X L p) 3 P B a b c2 bP bB)) 14 [bkW, (.vec 1 L.length)] [oSh (.vec 2 p) .nilslice, vS L, vC X]
  (.chk (ckCl [oSh (.vec 1 p) .nilslice, vC X] C) (.chk (eqSt (sT (prX X L p) 3 (.vec 1 L.length) C.length 0 C []) (sT (prX X L p) 3 (.vec 1 L.length) C.length 0 C [])) (.chk c1 (.chk (Nat.beq L.length L.length) (.chk (decide (okS L ks)) (.chk (eqSt (sMof (prX X L p) 3 L.length 0 ks [] []) (sMof (prX X L p) 3 L.length 0 ks [] [])) (.chk c2 (.br bP (.br bB (.ret (plV .nilslice .nilslice) [oSh (.vec 2 p) .nilslice, vS L, vC X]) (.ret (plV .nilslice (.vec 3 b)) [oSh (.vec 2 p) .nilslice, vS L, vC X, vA B])) (.br bB (.ret (plV (.vec 3 a) .nilslice) [oSh (.vec 2 p) .nilslice, vS L, vC X, vS P]) (.ret (plV (.vec 3 a) (.vec 4 b)) [oSh (.vec 2 p) .nilslice, vS L, vC X, vS P, vA B])))))))))) := by unfold Comes; kernel_rfl
open Classical in
theorem pl_y : Comes (tPc [oSh .nilslice (.vec 1 q), vC Y] C) (lvP2 3 (sT (prY Y L q) 3 (.vec 1 L.length) C.length 0 C []) (.chk c1 (.out (.exit 0) (sTX (prY Y L q) 3 (.vec 1 L.length) ks))) (sMof (prY Y L q) 3 L.length 0 ks [] []) (outM (prY Y L q) 3 P B a b c2 bP bB)) 14 [bkW, (.vec 1 L.length)] [oSh .nilslice (.vec 2 q), vS L, vC Y]
  (.chk (ckCl [oSh .nilslice (.vec 1 q), vC Y] C) (.chk (eqSt (sT (prY Y L q) 3 (.vec 1 L.length) C.length 0 C []) (sT (prY Y L q) 3 (.vec 1 L.length) C.length 0 C [])) (.chk c1 (.chk (Nat.beq L.length L.length) (.chk (decide (okS L ks)) (.chk (eqSt (sMof (prY Y L q) 3 L.length 0 ks [] []) (sMof (prY Y L q) 3 L.length 0 ks [] [])) (.chk c2 (.br bP (.br bB (.ret (plV .nilslice .nilslice) [oSh .nilslice (.vec 2 q), vS L, vC Y]) (.ret (plV .nilslice (.vec 3 b)) [oSh .nilslice (.vec 2 q), vS L, vC Y, vA B])) (.br bB (.ret (plV (.vec 3 a) .nilslice) [oSh .nilslice (.vec 2 q), vS L, vC Y, vS P]) (.ret (plV (.vec 3 a) (.vec 4 b)) [oSh .nilslice (.vec 2 q), vS L, vC Y, vS P, vA B])))))))))) := by unfold Comes; kernel_rfl
open Classical in
theorem pl_b : Comes (tPc [oSh (.vec 1 p) (.vec 2 q), vC X, vC Y] C) (lvP2 4 (sT (prB X Y L p q) 4 (.vec 1 L.length) C.length 0 C []) (.chk c1 (.out (.exit 0) (sTX (prB X Y L p q) 4 (.vec 1 L.length) ks))) (sMof (prB X Y L p q) 4 L.length 0 ks [] []) (outM (prB X Y L p q) 4 P B a b c2 bP bB)) 14 [bkW, (.vec 1 L.length)] [oSh (.vec 2 p) (.vec 3 q), vS L, vC X, vC Y]
  (.chk (ckCl [oSh (.vec 1 p) (.vec 2 q), vC X, vC Y] C) (.chk (eqSt (sT (prB X Y L p q) 4 (.vec 1 L.length) C.length 0 C []) (sT (prB X Y L p q) 4 (.vec 1 L.length) C.length 0 C [])) (.chk c1 (.chk (Nat.beq L.length L.length) (.chk (decide (okS L ks)) (.chk (eqSt (sMof (prB X Y L p q) 4 L.length 0 ks [] []) (sMof (prB X Y L p q) 4 L.length 0 ks [] [])) (.chk c2 (.br bP (.br bB (.ret (plV .nilslice .nilslice) [oSh (.vec 2 p) (.vec 3 q), vS L, vC X, vC Y]) (.ret (plV .nilslice (.vec 4 b)) [oSh (.vec 2 p) (.vec 3 q), vS L, vC X, vC Y, vA B])) (.br bB (.ret (plV (.vec 4 a) .nilslice) [oSh (.vec 2 p) (.vec 3 q), vS L, vC X, vC Y, vS P]) (.ret (plV (.vec 4 a) (.vec 5 b)) [oSh (.vec 2 p) (.vec 3 q), vS L, vC X, vC Y, vS P, vA B])))))))))) := by unfold Comes; kernel_rfl
def sMz (pre : List (Option PObj)) (K : Nat) (ks : List (List Int)) : PState := ⟨nn 9 ++ (some (.ptr K 0) :: nn 2 ++ (some .nilslice :: some (.ptr (K + 1) 0) :: nn 27 ++ (some .nilslice :: some (.int .i64 0) :: some (.int .i64 0) :: nn 42))), pre ++ (some (oP1 (.mapp (K + 2)) 71) :: some (oP1 .nilslice 22) :: some (oM ks) :: nn 64)⟩
abbrev sMXz (pre : List (Option PObj)) (K : Nat) : PState := sMX pre .nilslice K [some (oP1 .nilslice 22)]
open Classical in
noncomputable def eClz (pre : List PObj) : Ent := fun args pre' => .chk (decide ((args = [bkW] ∧ pre' = pre) ∧ Meets Tryz.prog 20 [bkW] (pre.map PObj.toA) (clV .nilslice) (pre.map PObj.toA))) (.ret (clV .nilslice) pre)
open Classical in
theorem eClz_ok (pre : List PObj) : EntOK Tryz.prog 20 (eClz pre) := fun args pre' => by
  unfold eClz
  refine ⟨fun g => ?_, fun _ => trivial⟩
  obtain ⟨⟨rfl, rfl⟩, h⟩ := of_decide_eq_true g
  exact h
open Classical in
noncomputable def ckClz (pre : List PObj) : Bool := decide (([bkW] = [bkW] ∧ pre = pre) ∧ Meets Tryz.prog 20 [bkW] (pre.map PObj.toA) (clV .nilslice) (pre.map PObj.toA))
noncomputable def tPz (pre : List PObj) : Tab := [(20, eClz pre), (27, eArt)]
theorem tPz_ok (pre : List PObj) : TabOK Tryz.prog (tPz pre) := .cons (eClz_ok pre) (.cons eArt_ok .nil)
theorem pl_0 : Comes (tPz [oSh .nilslice .nilslice]) nolv 14 [bkW, .nilslice] [oSh .nilslice .nilslice] (.chk (ckClz [oSh .nilslice .nilslice]) (.ret (plV .nilslice .nilslice) [oSh .nilslice .nilslice])) := by unfold Comes; kernel_rfl
theorem qzx : code (ent Tryz.prog [] nolv 64 1 20) Tryz.prog {} 2 64 1 loopQ (sMz (pX X p) 2 ks) (endK 2 64 kM kMX) = some (.exit 2, sMXz (pX X p) 2) := by kernel_rfl
theorem pl_x0 : Comes (tPc [oSh (.vec 1 p) .nilslice, vC X] C) (lvP2 2 (sT (pX X p) 2 .nilslice C.length 0 C []) (.chk c1 (.out (.exit 0) (sTX (pX X p) 2 .nilslice ks))) (sMz (pX X p) 2 ks) (.out (.exit 2) (sMXz (pX X p) 2))) 14 [bkW, .nilslice] [oSh (.vec 1 p) .nilslice, vC X]
  (.chk (ckCl [oSh (.vec 1 p) .nilslice, vC X] C) (.chk (eqSt (sT (pX X p) 2 .nilslice C.length 0 C []) (sT (pX X p) 2 .nilslice C.length 0 C [])) (.chk c1 (.chk (eqSt (sMz (pX X p) 2 ks) (sMz (pX X p) 2 ks)) (.ret (plV .nilslice .nilslice) [oSh (.vec 1 p) .nilslice, vC X]))))) := by unfold Comes; kernel_rfl
theorem qzy : code (ent Tryz.prog [] nolv 64 1 20) Tryz.prog {} 2 64 1 loopQ (sMz (pY Y q) 2 ks) (endK 2 64 kM kMX) = some (.exit 2, sMXz (pY Y q) 2) := by kernel_rfl
theorem pl_y0 : Comes (tPc [oSh .nilslice (.vec 1 q), vC Y] C) (lvP2 2 (sT (pY Y q) 2 .nilslice C.length 0 C []) (.chk c1 (.out (.exit 0) (sTX (pY Y q) 2 .nilslice ks))) (sMz (pY Y q) 2 ks) (.out (.exit 2) (sMXz (pY Y q) 2))) 14 [bkW, .nilslice] [oSh .nilslice (.vec 1 q), vC Y]
  (.chk (ckCl [oSh .nilslice (.vec 1 q), vC Y] C) (.chk (eqSt (sT (pY Y q) 2 .nilslice C.length 0 C []) (sT (pY Y q) 2 .nilslice C.length 0 C [])) (.chk c1 (.chk (eqSt (sMz (pY Y q) 2 ks) (sMz (pY Y q) 2 ks)) (.ret (plV .nilslice .nilslice) [oSh .nilslice (.vec 1 q), vC Y]))))) := by unfold Comes; kernel_rfl
theorem qzb : code (ent Tryz.prog [] nolv 64 1 20) Tryz.prog {} 3 64 1 loopQ (sMz (pXY X Y p q) 3 ks) (endK 3 64 kM kMX) = some (.exit 2, sMXz (pXY X Y p q) 3) := by kernel_rfl
theorem pl_b0 : Comes (tPc [oSh (.vec 1 p) (.vec 2 q), vC X, vC Y] C) (lvP2 3 (sT (pXY X Y p q) 3 .nilslice C.length 0 C []) (.chk c1 (.out (.exit 0) (sTX (pXY X Y p q) 3 .nilslice ks))) (sMz (pXY X Y p q) 3 ks) (.out (.exit 2) (sMXz (pXY X Y p q) 3))) 14 [bkW, .nilslice] [oSh (.vec 1 p) (.vec 2 q), vC X, vC Y]
  (.chk (ckCl [oSh (.vec 1 p) (.vec 2 q), vC X, vC Y] C) (.chk (eqSt (sT (pXY X Y p q) 3 .nilslice C.length 0 C []) (sT (pXY X Y p q) 3 .nilslice C.length 0 C [])) (.chk c1 (.chk (eqSt (sMz (pXY X Y p q) 3 ks) (sMz (pXY X Y p q) 3 ks)) (.ret (plV .nilslice .nilslice) [oSh (.vec 1 p) (.vec 2 q), vC X, vC Y]))))) := by unfold Comes; kernel_rfl
end
end Go.Proofs.YtphhepnldndbhaaGreatDoor

/- Layer 14: spill.Place: what it comes to (written by gen_spy.py). -/
set_option linter.unusedVariables false
set_option linter.unusedSimpArgs false
set_option linter.unusedSectionVars false
namespace Go.Proofs.YtphhepnldndbhaaGreatDoor
open Go Sx
def plR (n : Nat) : List (List CV) → AV
  | [] => .nilslice
  | P => .vec n P.length
def plO : List (List CV) → List PObj
  | [] => []
  | P => [vS P]
/-- What is known of spills: what is placed, what is blocked. -/
def plP (C L : List (List CV)) : List (List CV) := (plN L (tkN C C.length) L.length).P
def plB (C L : List (List CV)) : List (List CV) := (plN L (tkN C C.length) L.length).B
theorem lvP2_ok {K : Nat} {S6 S15 : PState} {x6 x15 : LAns} (h6 : LAnsOK Tryz.prog loopT K S6 x6) (h15 : LAnsOK Tryz.prog loopQ K S15 x15) : LvOK Tryz.prog (lvP2 K S6 x6 S15 x15) :=
  lvTwo_ok (x := loopT) (y := loopQ) Tryz.func14 (by kernel_rfl) (by kernel_rfl) (by kernel_rfl) (by decide) (fun K' t => eAt_ok h6 K' t) (fun K' t => eAt_ok h15 K' t)
theorem outM_ok {pre : List (Option PObj)} {K : Nat} {S : PState} {P B : List (List CV)} (key : Tri Tryz.prog (.loop loopQ) S.toA (.exit 2) (sMXof pre K P B).toA K) : LAnsOK Tryz.prog loopQ K S (outM pre K P B P.length B.length true (isNil P) (isNil B)) := by
  refine ⟨fun _ => ⟨fun h => ⟨fun h' => ?_, fun h' => ?_⟩, fun h => ⟨fun h' => ?_, fun h' => ?_⟩⟩, fun _ => trivial⟩ <;> cases P <;> cases B <;> first | exact key | (cases h; done) | (cases h'; done)
theorem bk_pos {X Y : List (List CV)} (h : 0 < X.length + Y.length) : 0 < (clL X Y).length := by
  unfold clL
  rw [List.length_append, colL_len, colL_len]; exact h
theorem clL_le {X Y : List (List CV)} (h : okBk X Y) : (clL X Y).length ≤ 1000 := by
  unfold clL
  rw [List.length_append, colL_len, colL_len]; have := h.2.2; omega
theorem cm_x {x : List CV} {X : List (List CV)} (h : okBk (x :: X) ([])) : Meets Tryz.prog 20 [bkW] ([oSh (.vec 1 (x :: X).length) .nilslice, vC (x :: X)].map PObj.toA) (clV (.vec 2 (clL (x :: X) ([])).length)) (([oSh (.vec 1 (x :: X).length) .nilslice, vC (x :: X)] ++ [vA (clL (x :: X) ([]))]).map PObj.toA) := by
  have hp := bk_pos (X := x :: X) (Y := []) (by simp only [List.length_cons]; omega)
  have key := cells_meets h
  rw [(cl_pos hp).1, (cl_pos (n := 0) hp).2] at key
  exact key
open Classical in
theorem pm_x {x : List CV} {X : List (List CV)} {L : List (List CV)} (h : okBk (x :: X) ([])) (hs : okS L (tkN (clL (x :: X) ([])) (clL (x :: X) ([])).length)) (ht : okT L) : Meets Tryz.prog 14 [bkW, .vec 1 L.length] ([oSh (.vec 2 (x :: X).length) .nilslice, vS L, vC (x :: X)].map PObj.toA) (plV (plR 3 (plP (clL (x :: X) ([])) L)) (clR (3 + (plO (plP (clL (x :: X) ([])) L)).length) (plB (clL (x :: X) ([])) L))) (([oSh (.vec 2 (x :: X).length) .nilslice, vS L, vC (x :: X)] ++ plO (plP (clL (x :: X) ([])) L) ++ clO (plB (clL (x :: X) ([])) L)).map PObj.toA) := by
  have hc := cm_x h
  have hl := clL_le h
  have lo := loop_x (X := x :: X) (p := (x :: X).length) (ks0 := tkN (clL (x :: X) ([])) (clL (x :: X) ([])).length) ht
  have lt := lt_tx1 (X := x :: X) (p := (x :: X).length) (m := L.length) (L := L) hl
  have e1 : (plN L (tkN (clL (x :: X) ([])) (clL (x :: X) ([])).length) L.length).P = plP (clL (x :: X) ([])) L := rfl
  have e2 : (plN L (tkN (clL (x :: X) ([])) (clL (x :: X) ([])).length) L.length).B = plB (clL (x :: X) ([])) L := rfl
  rw [e1, e2] at lo
  generalize plP (clL (x :: X) ([])) L = P at *
  generalize plB (clL (x :: X) ([])) L = B at *
  generalize (clL (x :: X) ([])) = C at *
  have key := pl_x (x :: X) L C P B (tkN C C.length) (x :: X).length P.length B.length true true (isNil P) (isNil B)
  refine meets_ent (pre := [oSh (.vec 2 (x :: X).length) .nilslice, vS L, vC (x :: X)]) (post := [oSh (.vec 2 (x :: X).length) .nilslice, vS L, vC (x :: X)] ++ plO P ++ clO B) (tPc_ok [oSh (.vec 1 (x :: X).length) .nilslice, vC (x :: X)] C) host (key.trans ?_) (lvP2_ok ⟨fun _ => lt, fun _ => trivial⟩ (outM_ok lo))
  have hck : ckCl [oSh (.vec 1 (x :: X).length) .nilslice, vC (x :: X)] C = true := decide_eq_true ⟨⟨rfl, rfl⟩, hc⟩
  rw [chkT hck, chkT (eqSt_refl _), chkT rfl, chkT (Nat.beq_refl _), chkT (decide_eq_true hs), chkT (eqSt_refl _), chkT rfl]
  cases P <;> cases B <;> rfl
open Classical in
theorem pn_x {x : List CV} {X : List (List CV)} (h : okBk (x :: X) ([])) : Meets Tryz.prog 14 [bkW, .nilslice] ([oSh (.vec 1 (x :: X).length) .nilslice, vC (x :: X)].map PObj.toA) (plV .nilslice .nilslice) ([oSh (.vec 1 (x :: X).length) .nilslice, vC (x :: X)].map PObj.toA) := by
  have hc := cm_x h
  have hl := clL_le h
  have lt := lt_tx0 (X := x :: X) (p := (x :: X).length) hl
  generalize (clL (x :: X) ([])) = C at *
  have lz : Tri Tryz.prog (.loop loopQ) (sMz (pX (x :: X) (x :: X).length) 2 (tkN C C.length)).toA (.exit 2) (sMXz (pX (x :: X) (x :: X).length) 2).toA 2 := tri_up (body := loopQ) (fun _ => (sMz (pX (x :: X) (x :: X).length) 2 (tkN C C.length)).toA) (fun e => by cases e) 0 (fun j hj => absurd hj (Nat.not_lt_zero j)) (n_sound (T := []) .nil (qzx ..)) 0 (Nat.le_refl _)
  have key := pl_x0 (x :: X) C (tkN C C.length) (x :: X).length true
  refine meets_ent (pre := [oSh (.vec 1 (x :: X).length) .nilslice, vC (x :: X)]) (post := [oSh (.vec 1 (x :: X).length) .nilslice, vC (x :: X)]) (tPc_ok [oSh (.vec 1 (x :: X).length) .nilslice, vC (x :: X)] C) host (key.trans ?_) (lvP2_ok ⟨fun _ => lt, fun _ => trivial⟩ lz)
  have hck : ckCl [oSh (.vec 1 (x :: X).length) .nilslice, vC (x :: X)] C = true := decide_eq_true ⟨⟨rfl, rfl⟩, hc⟩
  rw [chkT hck, chkT (eqSt_refl _), chkT rfl, chkT (eqSt_refl _)]; rfl
theorem cm_y {y : List CV} {Y : List (List CV)} (h : okBk ([]) (y :: Y)) : Meets Tryz.prog 20 [bkW] ([oSh .nilslice (.vec 1 (y :: Y).length), vC (y :: Y)].map PObj.toA) (clV (.vec 2 (clL ([]) (y :: Y)).length)) (([oSh .nilslice (.vec 1 (y :: Y).length), vC (y :: Y)] ++ [vA (clL ([]) (y :: Y))]).map PObj.toA) := by
  have hp := bk_pos (X := []) (Y := y :: Y) (by simp only [List.length_cons]; omega)
  have key := cells_meets h
  rw [(cl_pos hp).1, (cl_pos (n := 0) hp).2] at key
  exact key
open Classical in
theorem pm_y {y : List CV} {Y : List (List CV)} {L : List (List CV)} (h : okBk ([]) (y :: Y)) (hs : okS L (tkN (clL ([]) (y :: Y)) (clL ([]) (y :: Y)).length)) (ht : okT L) : Meets Tryz.prog 14 [bkW, .vec 1 L.length] ([oSh .nilslice (.vec 2 (y :: Y).length), vS L, vC (y :: Y)].map PObj.toA) (plV (plR 3 (plP (clL ([]) (y :: Y)) L)) (clR (3 + (plO (plP (clL ([]) (y :: Y)) L)).length) (plB (clL ([]) (y :: Y)) L))) (([oSh .nilslice (.vec 2 (y :: Y).length), vS L, vC (y :: Y)] ++ plO (plP (clL ([]) (y :: Y)) L) ++ clO (plB (clL ([]) (y :: Y)) L)).map PObj.toA) := by
  have hc := cm_y h
  have hl := clL_le h
  have lo := loop_y (Y := y :: Y) (q := (y :: Y).length) (ks0 := tkN (clL ([]) (y :: Y)) (clL ([]) (y :: Y)).length) ht
  have lt := lt_ty1 (Y := y :: Y) (q := (y :: Y).length) (m := L.length) (L := L) hl
  have e1 : (plN L (tkN (clL ([]) (y :: Y)) (clL ([]) (y :: Y)).length) L.length).P = plP (clL ([]) (y :: Y)) L := rfl
  have e2 : (plN L (tkN (clL ([]) (y :: Y)) (clL ([]) (y :: Y)).length) L.length).B = plB (clL ([]) (y :: Y)) L := rfl
  rw [e1, e2] at lo
  generalize plP (clL ([]) (y :: Y)) L = P at *
  generalize plB (clL ([]) (y :: Y)) L = B at *
  generalize (clL ([]) (y :: Y)) = C at *
  have key := pl_y (y :: Y) L C P B (tkN C C.length) (y :: Y).length P.length B.length true true (isNil P) (isNil B)
  refine meets_ent (pre := [oSh .nilslice (.vec 2 (y :: Y).length), vS L, vC (y :: Y)]) (post := [oSh .nilslice (.vec 2 (y :: Y).length), vS L, vC (y :: Y)] ++ plO P ++ clO B) (tPc_ok [oSh .nilslice (.vec 1 (y :: Y).length), vC (y :: Y)] C) host (key.trans ?_) (lvP2_ok ⟨fun _ => lt, fun _ => trivial⟩ (outM_ok lo))
  have hck : ckCl [oSh .nilslice (.vec 1 (y :: Y).length), vC (y :: Y)] C = true := decide_eq_true ⟨⟨rfl, rfl⟩, hc⟩
  rw [chkT hck, chkT (eqSt_refl _), chkT rfl, chkT (Nat.beq_refl _), chkT (decide_eq_true hs), chkT (eqSt_refl _), chkT rfl]
  cases P <;> cases B <;> rfl
open Classical in
theorem pn_y {y : List CV} {Y : List (List CV)} (h : okBk ([]) (y :: Y)) : Meets Tryz.prog 14 [bkW, .nilslice] ([oSh .nilslice (.vec 1 (y :: Y).length), vC (y :: Y)].map PObj.toA) (plV .nilslice .nilslice) ([oSh .nilslice (.vec 1 (y :: Y).length), vC (y :: Y)].map PObj.toA) := by
  have hc := cm_y h
  have hl := clL_le h
  have lt := lt_ty0 (Y := y :: Y) (q := (y :: Y).length) hl
  generalize (clL ([]) (y :: Y)) = C at *
  have lz : Tri Tryz.prog (.loop loopQ) (sMz (pY (y :: Y) (y :: Y).length) 2 (tkN C C.length)).toA (.exit 2) (sMXz (pY (y :: Y) (y :: Y).length) 2).toA 2 := tri_up (body := loopQ) (fun _ => (sMz (pY (y :: Y) (y :: Y).length) 2 (tkN C C.length)).toA) (fun e => by cases e) 0 (fun j hj => absurd hj (Nat.not_lt_zero j)) (n_sound (T := []) .nil (qzy ..)) 0 (Nat.le_refl _)
  have key := pl_y0 (y :: Y) C (tkN C C.length) (y :: Y).length true
  refine meets_ent (pre := [oSh .nilslice (.vec 1 (y :: Y).length), vC (y :: Y)]) (post := [oSh .nilslice (.vec 1 (y :: Y).length), vC (y :: Y)]) (tPc_ok [oSh .nilslice (.vec 1 (y :: Y).length), vC (y :: Y)] C) host (key.trans ?_) (lvP2_ok ⟨fun _ => lt, fun _ => trivial⟩ lz)
  have hck : ckCl [oSh .nilslice (.vec 1 (y :: Y).length), vC (y :: Y)] C = true := decide_eq_true ⟨⟨rfl, rfl⟩, hc⟩
  rw [chkT hck, chkT (eqSt_refl _), chkT rfl, chkT (eqSt_refl _)]; rfl
theorem cm_b {x : List CV} {X : List (List CV)} {y : List CV} {Y : List (List CV)} (h : okBk (x :: X) (y :: Y)) : Meets Tryz.prog 20 [bkW] ([oSh (.vec 1 (x :: X).length) (.vec 2 (y :: Y).length), vC (x :: X), vC (y :: Y)].map PObj.toA) (clV (.vec 3 (clL (x :: X) (y :: Y)).length)) (([oSh (.vec 1 (x :: X).length) (.vec 2 (y :: Y).length), vC (x :: X), vC (y :: Y)] ++ [vA (clL (x :: X) (y :: Y))]).map PObj.toA) := by
  have hp := bk_pos (X := x :: X) (Y := y :: Y) (by simp only [List.length_cons]; omega)
  have key := cells_meets h
  rw [(cl_pos hp).1, (cl_pos (n := 0) hp).2] at key
  exact key
open Classical in
theorem pm_b {x : List CV} {X : List (List CV)} {y : List CV} {Y : List (List CV)} {L : List (List CV)} (h : okBk (x :: X) (y :: Y)) (hs : okS L (tkN (clL (x :: X) (y :: Y)) (clL (x :: X) (y :: Y)).length)) (ht : okT L) : Meets Tryz.prog 14 [bkW, .vec 1 L.length] ([oSh (.vec 2 (x :: X).length) (.vec 3 (y :: Y).length), vS L, vC (x :: X), vC (y :: Y)].map PObj.toA) (plV (plR 4 (plP (clL (x :: X) (y :: Y)) L)) (clR (4 + (plO (plP (clL (x :: X) (y :: Y)) L)).length) (plB (clL (x :: X) (y :: Y)) L))) (([oSh (.vec 2 (x :: X).length) (.vec 3 (y :: Y).length), vS L, vC (x :: X), vC (y :: Y)] ++ plO (plP (clL (x :: X) (y :: Y)) L) ++ clO (plB (clL (x :: X) (y :: Y)) L)).map PObj.toA) := by
  have hc := cm_b h
  have hl := clL_le h
  have lo := loop_b (X := x :: X) (Y := y :: Y) (p := (x :: X).length) (q := (y :: Y).length) (ks0 := tkN (clL (x :: X) (y :: Y)) (clL (x :: X) (y :: Y)).length) ht
  have lt := lt_tb1 (X := x :: X) (Y := y :: Y) (p := (x :: X).length) (q := (y :: Y).length) (m := L.length) (L := L) hl
  have e1 : (plN L (tkN (clL (x :: X) (y :: Y)) (clL (x :: X) (y :: Y)).length) L.length).P = plP (clL (x :: X) (y :: Y)) L := rfl
  have e2 : (plN L (tkN (clL (x :: X) (y :: Y)) (clL (x :: X) (y :: Y)).length) L.length).B = plB (clL (x :: X) (y :: Y)) L := rfl
  rw [e1, e2] at lo
  generalize plP (clL (x :: X) (y :: Y)) L = P at *
  generalize plB (clL (x :: X) (y :: Y)) L = B at *
  generalize (clL (x :: X) (y :: Y)) = C at *
  have key := pl_b (x :: X) (y :: Y) L C P B (tkN C C.length) (x :: X).length (y :: Y).length P.length B.length true true (isNil P) (isNil B)
  refine meets_ent (pre := [oSh (.vec 2 (x :: X).length) (.vec 3 (y :: Y).length), vS L, vC (x :: X), vC (y :: Y)]) (post := [oSh (.vec 2 (x :: X).length) (.vec 3 (y :: Y).length), vS L, vC (x :: X), vC (y :: Y)] ++ plO P ++ clO B) (tPc_ok [oSh (.vec 1 (x :: X).length) (.vec 2 (y :: Y).length), vC (x :: X), vC (y :: Y)] C) host (key.trans ?_) (lvP2_ok ⟨fun _ => lt, fun _ => trivial⟩ (outM_ok lo))
  have hck : ckCl [oSh (.vec 1 (x :: X).length) (.vec 2 (y :: Y).length), vC (x :: X), vC (y :: Y)] C = true := decide_eq_true ⟨⟨rfl, rfl⟩, hc⟩
  rw [chkT hck, chkT (eqSt_refl _), chkT rfl, chkT (Nat.beq_refl _), chkT (decide_eq_true hs), chkT (eqSt_refl _), chkT rfl]
  cases P <;> cases B <;> rfl
open Classical in
theorem pn_b {x : List CV} {X : List (List CV)} {y : List CV} {Y : List (List CV)} (h : okBk (x :: X) (y :: Y)) : Meets Tryz.prog 14 [bkW, .nilslice] ([oSh (.vec 1 (x :: X).length) (.vec 2 (y :: Y).length), vC (x :: X), vC (y :: Y)].map PObj.toA) (plV .nilslice .nilslice) ([oSh (.vec 1 (x :: X).length) (.vec 2 (y :: Y).length), vC (x :: X), vC (y :: Y)].map PObj.toA) := by
  have hc := cm_b h
  have hl := clL_le h
  have lt := lt_tb0 (X := x :: X) (Y := y :: Y) (p := (x :: X).length) (q := (y :: Y).length) hl
  generalize (clL (x :: X) (y :: Y)) = C at *
  have lz : Tri Tryz.prog (.loop loopQ) (sMz (pXY (x :: X) (y :: Y) (x :: X).length (y :: Y).length) 3 (tkN C C.length)).toA (.exit 2) (sMXz (pXY (x :: X) (y :: Y) (x :: X).length (y :: Y).length) 3).toA 3 := tri_up (body := loopQ) (fun _ => (sMz (pXY (x :: X) (y :: Y) (x :: X).length (y :: Y).length) 3 (tkN C C.length)).toA) (fun e => by cases e) 0 (fun j hj => absurd hj (Nat.not_lt_zero j)) (n_sound (T := []) .nil (qzb ..)) 0 (Nat.le_refl _)
  have key := pl_b0 (x :: X) (y :: Y) C (tkN C C.length) (x :: X).length (y :: Y).length true
  refine meets_ent (pre := [oSh (.vec 1 (x :: X).length) (.vec 2 (y :: Y).length), vC (x :: X), vC (y :: Y)]) (post := [oSh (.vec 1 (x :: X).length) (.vec 2 (y :: Y).length), vC (x :: X), vC (y :: Y)]) (tPc_ok [oSh (.vec 1 (x :: X).length) (.vec 2 (y :: Y).length), vC (x :: X), vC (y :: Y)] C) host (key.trans ?_) (lvP2_ok ⟨fun _ => lt, fun _ => trivial⟩ lz)
  have hck : ckCl [oSh (.vec 1 (x :: X).length) (.vec 2 (y :: Y).length), vC (x :: X), vC (y :: Y)] C = true := decide_eq_true ⟨⟨rfl, rfl⟩, hc⟩
  rw [chkT hck, chkT (eqSt_refl _), chkT rfl, chkT (eqSt_refl _)]; rfl
open Classical in
theorem pn_0 : Meets Tryz.prog 14 [bkW, .nilslice] ([oSh .nilslice .nilslice].map PObj.toA) (plV .nilslice .nilslice) ([oSh .nilslice .nilslice].map PObj.toA) := by
  have hw : okW [] := ⟨by decide, fun j hj => absurd hj (Nat.not_lt_zero j)⟩
  have hc := cells_meets (X := []) (Y := []) ⟨hw, hw, by decide⟩
  have hc : Meets Tryz.prog 20 [bkW] ([oSh .nilslice .nilslice].map PObj.toA) (clV .nilslice) ([oSh .nilslice .nilslice].map PObj.toA) := hc
  refine meets_ent (pre := [oSh .nilslice .nilslice]) (post := [oSh .nilslice .nilslice]) (tPz_ok [oSh .nilslice .nilslice]) host (pl_0.trans ?_) nolv_ok
  have hck : ckClz [oSh .nilslice .nilslice] = true := decide_eq_true ⟨⟨rfl, rfl⟩, hc⟩
  rw [chkT hck]; rfl
end Go.Proofs.YtphhepnldndbhaaGreatDoor

/- Layer 14: places in order; the workbook of raw places is right, and so are its spills. -/
set_option linter.unusedVariables false
set_option linter.unusedSimpArgs false
set_option linter.unusedSectionVars false
namespace Go.Proofs.YtphhepnldndbhaaGreatDoor
open Go Sx
theorem ahdB_iff {s r c s' r' c' : Int} : ahdB s r c s' r' c' = true ↔ (s < s' ∨ s = s' ∧ (r < r' ∨ r = r' ∧ c < c')) := by
  unfold ahdB
  by_cases h1 : s = s'
  · rw [bcF (b := s != s') (by rw [h1]; simp)]
    by_cases h2 : r = r'
    · rw [bcF (b := r != r') (by rw [h2]; simp), decide_eq_true_eq]; omega
    · rw [bcT (b := r != r') (bne_iff_ne.2 h2), decide_eq_true_eq]; omega
  · rw [bcT (b := s != s') (bne_iff_ne.2 h1), decide_eq_true_eq]; omega
theorem cmI_lt {a b : Int} (h : a < b) : cmI a b = -1 := by unfold cmI; rw [decide_eq_true h]; rfl
theorem cmI_eq (a : Int) : cmI a a = 0 := by unfold cmI; rw [decide_eq_false (p := a < a) (by omega)]; rfl
theorem cmP_of {s r c s' r' c' : Int} (h : s < s' ∨ s = s' ∧ (r < r' ∨ r = r' ∧ c < c')) : cmP s r c s' r' c' = -1 := by
  unfold cmP
  rcases h with h | ⟨rfl, h | ⟨rfl, h⟩⟩
  · rw [cmI_lt h]; rfl
  · rw [cmI_eq, cmI_lt h]; rfl
  · rw [cmI_eq, cmI_eq, cmI_lt h]; rfl
def ltR (x y : List CV) : Prop := ahdR x y = true
theorem ltR_iff {x y : List CV} : ltR x y ↔ (c0 x < c0 y ∨ c0 x = c0 y ∧ (c1 x < c1 y ∨ c1 x = c1 y ∧ c2 x < c2 y)) := ahdB_iff
theorem ltR_trans {x y z : List CV} (h : ltR x y) (h' : ltR y z) : ltR x z := by
  rw [ltR_iff] at *; omega
theorem ltR_other {x y : List CV} (h : ¬ ltR x y) (he : eqR x y = false) : ltR y x := by
  rw [ltR_iff] at *
  by_cases e : c0 x = c0 y ∧ c1 x = c1 y ∧ c2 x = c2 y
  · obtain ⟨e1, e2, e3⟩ := e
    have : eqR x y = true := by unfold eqR eqA3; simp [e1, e2, e3]
    rw [this] at he; cases he
  · omega
theorem rowAt_get {l : List (List CV)} {i : Nat} (h : i < l.length) : Sx.rowAt l i = l[i] := by unfold Sx.rowAt; simp [h]
theorem pw_at {l : List (List CV)} {Q : List CV → List CV → Prop} (h : l.Pairwise Q) {i j : Nat} (hj : j < l.length) (hij : i < j) : Q (Sx.rowAt l i) (Sx.rowAt l j) := by
  rw [rowAt_get hj, rowAt_get (show i < l.length by omega)]
  exact List.pairwise_iff_getElem.1 h i j (by omega) hj hij
theorem scN_spec {O : List (List CV)} {p : List CV} (hO : O.Pairwise ltR) : ∀ k, k ≤ O.length → (∀ i, i < scN O p k → ltR (Sx.rowAt O i) p) ∧ ∀ i, scN O p k ≤ i → i < k → ¬ ltR (Sx.rowAt O i) p
  | 0, _ => ⟨fun i hi => absurd hi (Nat.not_lt_zero i), fun i _ hi => absurd hi (Nat.not_lt_zero i)⟩
  | k + 1, hk => by
    have ih := scN_spec (p := p) hO k (by omega)
    rw [scN]
    cases h : ahdR (Sx.rowAt O k) p with
    | true =>
      simp only [bcond]
      refine ⟨fun i hi => ?_, fun i h1 h2 => absurd h2 (by omega)⟩
      by_cases e : i = k
      · rw [e]; exact h
      · exact ltR_trans (pw_at hO (show k < O.length by omega) (by omega)) h
    | false =>
      simp only [bcond]
      refine ⟨ih.1, fun i h1 h2 => ?_⟩
      by_cases e : i = k
      · rw [e]; intro h'; rw [ltR, h] at h'; cases h'
      · exact ih.2 i h1 (by omega)
theorem scB_spec {O : List (List CV)} {p : List CV} : ∀ k, scB O p k = false → ∀ i, i < k → eqR (Sx.rowAt O i) p = false
  | 0, _, i, hi => absurd hi (Nat.not_lt_zero i)
  | k + 1, h, i, hi => by
    rw [scB, Bool.or_eq_false_iff] at h
    by_cases e : i = k
    · rw [e]; exact h.2
    · exact scB_spec k h.1 i (by omega)
theorem insA_sorted {O : List (List CV)} {p : List CV} (hO : O.Pairwise ltR) : (insA O p).Pairwise ltR := by
  unfold insA
  cases hb : scB O p O.length with
  | true => exact hO
  | false =>
    obtain ⟨h1, h2⟩ := scN_spec (p := p) hO O.length (Nat.le_refl _)
    have h3 := scB_spec O.length hb
    have hle := scN_le O p O.length
    generalize scN O p O.length = n at *
    show (O.take n ++ [p] ++ O.drop n).Pairwise ltR
    have tk : ∀ a ∈ O.take n, ∃ i, i < n ∧ i < O.length ∧ a = Sx.rowAt O i := fun a ha => by
      obtain ⟨i, hi, e⟩ := List.mem_iff_getElem.1 ha
      rw [List.length_take] at hi
      exact ⟨i, by omega, by omega, by rw [rowAt_get (show i < O.length by omega), ← e, List.getElem_take]⟩
    have dr : ∀ b ∈ O.drop n, ∃ i, n ≤ i ∧ i < O.length ∧ b = Sx.rowAt O i := fun b hb' => by
      obtain ⟨i, hi, e⟩ := List.mem_iff_getElem.1 hb'
      rw [List.length_drop] at hi
      exact ⟨n + i, by omega, by omega, by rw [rowAt_get (show n + i < O.length by omega), ← e, List.getElem_drop]⟩
    rw [List.pairwise_append, List.pairwise_append]
    refine ⟨⟨hO.sublist (List.take_sublist n O), List.pairwise_singleton _ _, fun a ha b hb' => ?_⟩, hO.sublist (List.drop_sublist n O), fun a ha b hb' => ?_⟩
    · obtain ⟨i, hi, _, rfl⟩ := tk a ha
      rw [List.mem_singleton.1 hb']; exact h1 i hi
    · obtain ⟨j, hj, hj', rfl⟩ := dr b hb'
      rcases List.mem_append.1 ha with ha | ha
      · obtain ⟨i, hi, _, rfl⟩ := tk a ha
        exact pw_at hO hj' (by omega)
      · rw [List.mem_singleton.1 ha]
        exact ltR_other (h2 j hj hj') (h3 j hj')
theorem atsL_sorted (R : List (List CV)) : ∀ k, (atsL R k).Pairwise ltR
  | 0 => List.Pairwise.nil
  | k + 1 => by rw [atsL]; exact insA_sorted (atsL_sorted R k)
-- the workbook
theorem bkL_mem {A : List (List CV)} {s : Int} {y : List CV} : ∀ j, y ∈ bkL A s j → ∃ i, i < j ∧ c0 (Sx.rowAt A i) = s ∧ y = mkC (c1 (Sx.rowAt A i)) (c2 (Sx.rowAt A i))
  | 0, h => nomatch h
  | j + 1, h => by
    rw [bkL] at h
    cases e : c0 (Sx.rowAt A j) == s with
    | true =>
      rw [e] at h
      rcases List.mem_append.1 h with h | h
      · obtain ⟨i, hi, h1, h2⟩ := bkL_mem j h
        exact ⟨i, by omega, h1, h2⟩
      · exact ⟨j, by omega, eq_of_beq e, List.mem_singleton.1 h⟩
    | false =>
      rw [e] at h
      obtain ⟨i, hi, h1, h2⟩ := bkL_mem j h
      exact ⟨i, by omega, h1, h2⟩
theorem mem_bkL {A : List (List CV)} {s : Int} {i : Nat} (h : c0 (Sx.rowAt A i) = s) : ∀ j, i < j → mkC (c1 (Sx.rowAt A i)) (c2 (Sx.rowAt A i)) ∈ bkL A s j
  | 0, hi => absurd hi (Nat.not_lt_zero i)
  | j + 1, hi => by
    rw [bkL]
    by_cases e : i = j
    · rw [← e, h, beq_self_eq_true]; exact List.mem_append_right _ (List.mem_singleton.2 rfl)
    · have := mem_bkL h j (by omega)
      cases c0 (Sx.rowAt A j) == s with
      | true => exact List.mem_append_left _ this
      | false => exact this
theorem bkL_sorted {A : List (List CV)} {s : Int} (hA : A.Pairwise ltR) : ∀ j, j ≤ A.length → (bkL A s j).Pairwise fun x y => cmP 0 (c0 x) (c1 x) 0 (c0 y) (c1 y) = -1
  | 0, _ => List.Pairwise.nil
  | j + 1, hj => by
    have ih := bkL_sorted (s := s) hA j (by omega)
    rw [bkL]
    cases e : c0 (Sx.rowAt A j) == s with
    | false => exact ih
    | true =>
      show (bkL A s j ++ [_]).Pairwise _
      rw [List.pairwise_append]
      refine ⟨ih, List.pairwise_singleton _ _, fun a ha b hb => ?_⟩
      obtain ⟨i, hi, h1, rfl⟩ := bkL_mem j ha
      rw [List.mem_singleton.1 hb]
      have := pw_at hA (show j < A.length by omega) hi
      rw [ltR_iff] at this
      have e := eq_of_beq e
      exact cmP_of (.inr ⟨rfl, by show c1 (Sx.rowAt A i) < c1 (Sx.rowAt A j) ∨ _; rw [h1, e] at this; rcases this with h | ⟨_, h⟩; exact absurd h (by omega); exact h⟩)
theorem okW_of {X : List (List CV)} (hl : X.length ≤ 400) (hX : X.Pairwise fun x y => cmP 0 (c0 x) (c1 x) 0 (c0 y) (c1 y) = -1) (hm : ∀ x ∈ X, ∃ r c, x = mkC r c ∧ (0 ≤ r ∧ r < 200) ∧ 0 ≤ c ∧ c < 52) : okW X := by
  refine ⟨hl, fun j hj => ?_⟩
  obtain ⟨r, c, e, ⟨h1, h2⟩, h3, h4⟩ := hm (Sx.rowAt X j) (by rw [rowAt_get hj]; exact List.getElem_mem hj)
  refine ⟨?_, by rw [e]; rfl, fun k hk => by subst hk; exact pw_at hX hj (by omega)⟩
  rw [e]
  show hasB 0 0 0 200 52 0 r c = true
  have ha : areaB 0 0 0 200 52 = true := (areaB_iff (by decide) (by decide)).2 (by omega)
  unfold hasB hasC
  rw [allB_iff, ha]
  have w1 : w64 (0 + 200) = 200 := by decide
  have w2 : w64 (0 + 52) = 52 := by decide
  rw [w1, w2]
  simp only [List.mem_cons, List.not_mem_nil, or_false, forall_eq_or_imp, forall_eq, decide_eq_true_eq]
  exact ⟨trivial, by decide, h1, h2, h3, h4⟩
theorem bkX_ok (R : List (List CV)) (a : Nat) (s : Int) : okW (bkX R a s) ∧ (bkX R a s).length ≤ 12 := by
  have hl := bkL_le (atsL R (m12 a)) s (atsL R (m12 a)).length
  have hk := atsL_le R (m12 a)
  have h12 : m12 a ≤ 12 := Nat.min_le_right ..
  have hl : (bkX R a s).length ≤ 12 := by unfold bkX; omega
  refine ⟨okW_of (by omega) (bkL_sorted (atsL_sorted R _) _ (Nat.le_refl _)) fun x hx => ?_, hl⟩
  obtain ⟨i, hi, _, rfl⟩ := bkL_mem _ hx
  obtain ⟨y, e⟩ := atsL_in R (m12 a) hi
  have := plA_in y
  rw [e]
  exact ⟨_, _, rfl, by omega, by omega⟩
theorem book_ok (R : List (List CV)) (a : Nat) : okBk (bkX R a 0) (bkX R a 1) := by
  have h0 := bkX_ok R a 0
  have h1 := bkX_ok R a 1
  exact ⟨h0.1, h1.1, by omega⟩
end Go.Proofs.YtphhepnldndbhaaGreatDoor
