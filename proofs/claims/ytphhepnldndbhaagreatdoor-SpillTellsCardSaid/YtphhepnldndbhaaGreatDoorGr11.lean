import Derived.Test.YtphhepnldndbhaaGreatDoorGr10
set_option linter.unusedVariables false
set_option linter.unusedSimpArgs false
set_option linter.unusedSectionVars false
namespace Go.Proofs.YtphhepnldndbhaaGreatDoor.Dp
open Go Sx Go.Proofs.YtphhepnldndbhaaGreatDoor
open Classical in
theorem ckCkM_ok {pre : List PObj} (h : Meets Tryz.prog fCk [bkW] (pre.map PObj.toA) ckV0 (pre.map PObj.toA)) : ckCkM pre = true := decide_eq_true h
theorem w400 {n : Nat} (hn : n ≤ 400) : w64 (n : Int) = (n : Int) := qxy (by omega) (by omega)
open Classical in
theorem cellsD_meets {X Y : List (List CV)} (h : okBk X Y) : Meets Tryz.prog fCe [bkW] ((bkP X Y).map PObj.toA) (clV (clR (bkP X Y).length (clL X Y))) ((bkP X Y ++ clO (clL X Y)).map PObj.toA) := by
  obtain ⟨hX, hY, hs⟩ := h
  cases X with
  | nil => cases Y with
    | nil =>
      have h0 := ckCkM_ok (pre := [oSh .qzz .qzz]) (qyx (pre := [oSh .qzz .qzz]) (post := [oSh .qzz .qzz]) tChk_ok host ck_0 qyz)
      exact qyx (pre := [oSh .qzz .qzz]) (post := [oSh .qzz .qzz]) tCeM_ok host (ce_0.trans (by rw [chkT h0]; rfl)) qyz
    | cons y Y =>
      have hn : (y :: Y).length ≤ 400 := hY.1
      have e : clL [] (y :: Y) = colL 1 (y :: Y) (y :: Y).length := by show [] ++ _ = _; rw [List.nil_append]
      have el := colL_len 1 (y :: Y) (y :: Y).length
      have er : clR (bkP [] (y :: Y)).length (clL [] (y :: Y)) = .vec 2 (y :: Y).length := by
        rw [e, (cl_pos (by rw [el]; exact Nat.succ_pos _)).1, el]; rfl
      have eo : clO (clL [] (y :: Y)) = [vA (colL 1 (y :: Y) (y :: Y).length)] := by rw [e, (cl_pos (n := 0) (by rw [el]; exact Nat.succ_pos _)).2]
      rw [er, eo]
      have h0 := ckCkM_ok (pre := [oSh .qzz (.vec 1 (y :: Y).length), vC (y :: Y)]) (qyx (pre := [oSh .qzz (.vec 1 (y :: Y).length), vC (y :: Y)]) (post := [oSh .qzz (.vec 1 (y :: Y).length), vC (y :: Y)]) tChk_ok host ((ck_y (y :: Y) true true).trans (by
        rw [brF (decide_eq_false (by rw [show w64 (0 + 0) = 0 from rfl, Int.zero_add, w400 hn]; omega)), chkT (qzt _), chkT rfl, chkT (qzt _), chkT rfl]; rfl)) (lvK_ok (outC_ok fun _ => atOnce (fun e => by cases e) (qzx tChk_ok rKyz)) (outC_ok fun _ => loopKy hY)))
      refine qyx (pre := bkP [] (y :: Y)) (post := bkP [] (y :: Y) ++ [vA (colL 1 (y :: Y) (y :: Y).length)]) tCeM_ok host ((ce_y (y :: Y) (colL 1 (y :: Y) (y :: Y).length) true true).trans ?_) (lvE_ok (outC_ok fun _ => atOnce (fun e => by cases e) (qzx (T := []) .nil rEyz)) (outC_ok fun _ => loopEny (Nat.succ_pos _) hn))
      rw [chkT h0, chkT (qzt _), chkT rfl, chkT (qzt _), chkT rfl]; rfl
  | cons x X => cases Y with
    | nil =>
      have hn : (x :: X).length ≤ 400 := hX.1
      have e : clL (x :: X) [] = colL 0 (x :: X) (x :: X).length := by show _ ++ [] = _; rw [List.append_nil]
      have el := colL_len 0 (x :: X) (x :: X).length
      have er : clR (bkP (x :: X) []).length (clL (x :: X) []) = .vec 2 (x :: X).length := by
        rw [e, (cl_pos (by rw [el]; exact Nat.succ_pos _)).1, el]; rfl
      have eo : clO (clL (x :: X) []) = [vA (colL 0 (x :: X) (x :: X).length)] := by rw [e, (cl_pos (n := 0) (by rw [el]; exact Nat.succ_pos _)).2]
      rw [er, eo]
      have h0 := ckCkM_ok (pre := [oSh (.vec 1 (x :: X).length) .qzz, vC (x :: X)]) (qyx (pre := [oSh (.vec 1 (x :: X).length) .qzz, vC (x :: X)]) (post := [oSh (.vec 1 (x :: X).length) .qzz, vC (x :: X)]) tChk_ok host ((ck_x (x :: X) true true).trans (by
        rw [brF (decide_eq_false (by rw [Int.zero_add, w400 hn, Int.add_zero, w400 hn]; omega)), chkT (qzt _), chkT rfl, chkT (qzt _), chkT rfl]; rfl)) (lvK_ok (outC_ok fun _ => loopKx hX) (outC_ok fun _ => atOnce (fun e => by cases e) (qzx tChk_ok rKxz))))
      refine qyx (pre := bkP (x :: X) []) (post := bkP (x :: X) [] ++ [vA (colL 0 (x :: X) (x :: X).length)]) tCeM_ok host ((ce_x (x :: X) (colL 0 (x :: X) (x :: X).length) true true).trans ?_) (lvE_ok (outC_ok fun _ => loopEnx (Nat.succ_pos _) hn) (outC_ok fun _ => atOnce (fun e => by cases e) (qzx (T := []) .nil rExz)))
      rw [chkT h0, chkT (qzt _), chkT rfl, chkT (qzt _), chkT rfl]; rfl
    | cons y Y =>
      have hn : (x :: X).length ≤ 400 := hX.1
      have hm : (y :: Y).length ≤ 400 := hY.1
      have el := colL_len 0 (x :: X) (x :: X).length
      have er : clR (bkP (x :: X) (y :: Y)).length (clL (x :: X) (y :: Y)) = .vec 3 (clL (x :: X) (y :: Y)).length := (cl_pos (by unfold clL; rw [List.length_append, el]; simp only [List.length_cons]; omega)).1
      have eo : clO (clL (x :: X) (y :: Y)) = [vA (clL (x :: X) (y :: Y))] := (cl_pos (n := 0) (by unfold clL; rw [List.length_append, el]; simp only [List.length_cons]; omega)).2
      rw [er, eo]
      have h0 := ckCkM_ok (pre := [oSh (.vec 1 (x :: X).length) (.vec 2 (y :: Y).length), vC (x :: X), vC (y :: Y)]) (qyx (pre := [oSh (.vec 1 (x :: X).length) (.vec 2 (y :: Y).length), vC (x :: X), vC (y :: Y)]) (post := [oSh (.vec 1 (x :: X).length) (.vec 2 (y :: Y).length), vC (x :: X), vC (y :: Y)]) tChk_ok host ((ck_b (x :: X) (y :: Y) true true).trans (by
        rw [brF (decide_eq_false (by rw [Int.zero_add, w400 hn, show (((x :: X).length : Nat) : Int) + ((y :: Y).length : Nat) = (((x :: X).length + (y :: Y).length : Nat) : Int) by omega, w400 hs]; omega)), chkT (qzt _), chkT rfl, chkT (qzt _), chkT rfl]; rfl)) (lvK_ok (outC_ok fun _ => loopKb hX) (outC_ok fun _ => loopKc hY)))
      have kd := loopEvc (X := x :: X) (Y := y :: Y) (L := colL 0 (x :: X) (x :: X).length) (p := (x :: X).length) (q := (y :: Y).length) (s := 1) (by rw [el]; exact hn) hm
      have eL : colL 0 (x :: X) (x :: X).length ++ colL 1 (y :: Y) (y :: Y).length = clL (x :: X) (y :: Y) := rfl
      have eN : (x :: X).length + (y :: Y).length = (clL (x :: X) (y :: Y)).length := by unfold clL; rw [List.length_append, el, colL_len]
      rw [eL, el, eN] at kd
      refine qyx (pre := bkP (x :: X) (y :: Y)) (post := bkP (x :: X) (y :: Y) ++ [vA (clL (x :: X) (y :: Y))]) tCeM_ok host ((ce_b (x :: X) (y :: Y) (colL 0 (x :: X) (x :: X).length) (clL (x :: X) (y :: Y)) (clL (x :: X) (y :: Y)).length true true).trans ?_) (lvE_ok (outC_ok fun _ => loopEnb (Nat.succ_pos _) hn) (outC_ok fun _ => kd))
      rw [chkT h0, chkT (qzt _), chkT rfl, chkT (qzt _), chkT rfl]; rfl
end Go.Proofs.YtphhepnldndbhaaGreatDoor.Dp
namespace Go.Proofs.YtphhepnldndbhaaGreatDoor.Dp
open Go Sx Go.Proofs.YtphhepnldndbhaaGreatDoor
noncomputable abbrev loopA : Code := (qyu (bodyOf Tryz.f49)).headD .skip
noncomputable abbrev loopG : Code := (qyu (bodyOf Tryz.f32)).headD .skip
def eqP (x : List CV) (s r c : Int) : Bool := c0 x == s && (c1 x == r && (c2 x == c && true))
theorem eqP_iff {x : List CV} {s r c : Int} : eqP x s r c = true ↔ c0 x = s ∧ c1 x = r ∧ c2 x = c := by
  unfold eqP
  simp only [Bool.and_eq_true, beq_iff_eq, and_true]
section
variable (C : List (List CV)) (n : Nat) (s r c i : Int) (o b : Bool)
def sAm (i : Int) : qzw := ⟨some (.dsl 0 n) :: nn 2 ++ (some (.ptr 1 0) :: none :: some (.int .i64 i) :: nn 12), some (fA C) :: some (oA3 s r c) :: nn 64⟩
def sAmX : qzw := ⟨nn 18, some (fA C) :: nn 64⟩
def sAmR : qzw := ⟨nn 4 ++ (some (.bool true) :: nn 13), some (fA C) :: nn 64⟩
theorem rAm2 : code (ent Tryz.prog [] nolv 64 1 20) Tryz.prog {} 1 64 1 loopA (sAm C n s r c i) (endK 1 64 (fun n => hasN [0, 3, 5] n) (fun n => hasN [4] n)) = qyw (decide (i < (n : Int))) (chks (qyw (eqP (Sx.rowAt C i.toNat) s r c) (some (.ret, sAmR C)) (some (.normal, sAm C n s r c (up1 i)))) [ixN i n, ckF i C]) (some (.exit 0, sAmX C)) := by kernel_rfl
noncomputable def lvAm : FuncId → Lv := lvOf 49 (fun _ => some [0, 3, 5]) (oneL 2 (eAt 1 (sAm C n s r c 0) (.chk o (.br b (.out .ret (sAmR C)) (.out (.exit 0) (sAmX C))))))
theorem am_comes : Comes [] (lvAm C n s r c o b) 49 [.dsl 0 n, aP s r c] [fA C] (.chk (eqSt (sAm C n s r c 0) (sAm C n s r c 0)) (.chk o (.br b (.ret (.bool true) [fA C]) (.ret (.bool false) [fA C])))) := by unfold Comes; kernel_rfl
end
def amB (C : List (List CV)) (n : Nat) (s r c : Int) : Bool := anyN (fun j => eqP (Sx.rowAt C j) s r c) n
open Classical in
noncomputable def eAm : Ent := fun args pre => match args, pre with
  | [.dsl j n, .agg [.int .i64 s, .int .i64 r, .int .i64 c]], [.raw (.flatR fl sh C)] => .chk (Nat.beq j 0 && !fl && shEq sh shA) (.chk (decide (n ≤ C.length ∧ n ≤ 1000)) (.ret (.bool (amB C n s r c)) [.raw (.flatR fl sh C)]))
  | _, _ => .fail
open Classical in
theorem eAm_ok : EntOK Tryz.prog 49 eAm := fun args pre => by
  unfold eAm
  split
  · rename_i j n s r c fl sh C
    refine ⟨fun g0 => ⟨fun g1 => ?_, fun _ => trivial⟩, fun _ => trivial⟩
    simp only [Bool.and_eq_true, beqT, Bool.not_eq_true'] at g0
    obtain ⟨⟨rfl, rfl⟩, g⟩ := g0
    obtain rfl := shEq_of g
    obtain ⟨h1, h2⟩ := of_decide_eq_true g1
    have key : (amB C n s r c = true → Tri Tryz.prog (.loop loopA) (sAm C n s r c 0).toA .ret (sAmR C).toA 1) ∧ (amB C n s r c = false → Tri Tryz.prog (.loop loopA) (sAm C n s r c 0).toA (.exit 0) (sAmX C).toA 1) := by
      have rd : ∀ j, j < n → code (ent Tryz.prog [] nolv 64 1 20) Tryz.prog {} 1 64 1 loopA (sAm C n s r c (j : Int)) (endK 1 64 (fun n => hasN [0, 3, 5] n) (fun n => hasN [4] n)) = qyw (eqP (Sx.rowAt C j) s r c) (some (.ret, sAmR C)) (some (.normal, sAm C n s r c ((j + 1 : Nat) : Int))) := fun j hj => by
        rw [rAm2, bcT (decide_eq_true (by omega)), qzy (all2 (ixN_nat hj) (ckF_nat (by omega))), Int.toNat_natCast, up1_nat (by omega)]
      refine tri_any (W := n) (fun j => eqP (Sx.rowAt C j) s r c) (fun j => (sAm C n s r c (j : Int)).toA) (fun e => by cases e) (fun e => by cases e) (fun j hj hh => ?_) (fun j hj hh => ?_) ?_
      · exact qzx (T := []) .nil ((rd j hj).trans (by rw [show eqP (Sx.rowAt C j) s r c = false from hh]; rfl))
      · exact qzx (T := []) .nil ((rd j hj).trans (by rw [show eqP (Sx.rowAt C j) s r c = true from hh]; rfl))
      · exact qzx (T := []) .nil ((rAm2 C n s r c (n : Int)).trans (by rw [bcF (decide_eq_false (by omega))]))
    cases hb : amB C n s r c with
    | true =>
      refine qyx (pre := [fA C]) (post := [fA C]) (T := []) .nil host ((am_comes C n s r c true true).trans ?_) (lvOne_ok (x := loopA) Tryz.func49 (by kernel_rfl) fun K t => eAt_ok (a := .chk true (.br true (.out .ret (sAmR C)) (.out (.exit 0) (sAmX C)))) ⟨fun _ => ⟨fun _ => key.1 hb, fun e => by cases e⟩, fun _ => trivial⟩ K t)
      rw [chkT (qzt _), chkT rfl, brT rfl]; rfl
    | false =>
      refine qyx (pre := [fA C]) (post := [fA C]) (T := []) .nil host ((am_comes C n s r c true false).trans ?_) (lvOne_ok (x := loopA) Tryz.func49 (by kernel_rfl) fun K t => eAt_ok (a := .chk true (.br false (.out .ret (sAmR C)) (.out (.exit 0) (sAmX C)))) ⟨fun _ => ⟨(fun e => by cases e), fun _ => key.2 hb⟩, fun _ => trivial⟩ K t)
      rw [chkT (qzt _), chkT rfl, brF rfl]; rfl
  · trivial
noncomputable def tRi : Tab := [(49, eAm), (24, eAhd)]
theorem tRi_ok : TabOK Tryz.prog tRi := .cons eAm_ok (.cons eAhd_ok .nil)
section
variable (L C : List (List CV)) (m n : Nat) (i : Int) (o b : Bool)
def sRi (i : Int) : qzw := ⟨some (.dsl 0 m) :: some (.dsl 1 n) :: nn 3 ++ (some (.int .i64 i) :: nn 79), some (fSp L) :: some (fA C) :: nn 64⟩
def sRiX : qzw := ⟨nn 85, some (fSp L) :: some (fA C) :: nn 64⟩
def sRiF : qzw := ⟨nn 4 ++ (some (.bool false) :: nn 80), some (fSp L) :: some (fA C) :: nn 64⟩
noncomputable def nxRi : Option (Ex × qzw) := qyw (decide (i > 0)) (chks (qyw (!ahdR (Sx.rowAt L (w64 (i - 1)).toNat) (Sx.rowAt L i.toNat)) (some (.ret, sRiF L C)) (some (.normal, sRi L C m n (up1 i)))) [ixN (w64 (i - 1)) m, ckF (w64 (i - 1)) L, ixN i m, ckF i L]) (some (.normal, sRi L C m n (up1 i)))
open Classical in
theorem rRi : code (ent Tryz.prog tRi nolv 64 1 20) Tryz.prog {} 2 64 1 loopG (sRi L C m n i) (endK 2 64 (fun n => hasN [0, 1, 5] n) (fun n => hasN [4] n)) = qyw (decide (i < (m : Int))) (chks (qyw (!amB C n (c0 (Sx.rowAt L i.toNat)) (c1 (Sx.rowAt L i.toNat)) (c2 (Sx.rowAt L i.toNat))) (some (.ret, sRiF L C))
  (chks (qyw (decide (c3 (Sx.rowAt L i.toNat) < 1)) (some (.ret, sRiF L C)) (chks (qyw (decide (c4 (Sx.rowAt L i.toNat) < 1)) (some (.ret, sRiF L C)) (chks (qyw (decide (c3 (Sx.rowAt L i.toNat) > 400)) (some (.ret, sRiF L C)) (chks (qyw (decide (c4 (Sx.rowAt L i.toNat) > 400)) (some (.ret, sRiF L C))
    (chks (qyw (decide (w64 (c3 (Sx.rowAt L i.toNat) * c4 (Sx.rowAt L i.toNat)) > 400)) (some (.ret, sRiF L C)) (nxRi L C m n i)) [ixN i m, inR1 i L, ixN i m, inR1 i L])) [ixN i m, inR1 i L])) [ixN i m, inR1 i L])) [ixN i m, inR1 i L])) [ixN i m, inR1 i L])) [ixN i m, ckF i L, decide (n ≤ C.length ∧ n ≤ 1000)]) (some (.exit 0, sRiX L C)) := by kernel_rfl
noncomputable def lvRi : FuncId → Lv := lvOf 32 (fun _ => some [0, 1, 5]) (oneL 2 (eAt 2 (sRi L C m n 0) (.chk o (.br b (.out .ret (sRiF L C)) (.out (.exit 0) (sRiX L C))))))
theorem ri_comes : Comes tRi (lvRi L C m n o b) 32 [.dsl 0 m, .dsl 1 n] [fSp L, fA C] (.chk (eqSt (sRi L C m n 0) (sRi L C m n 0)) (.chk o (.br b (.ret (.bool false) [fSp L, fA C]) (.ret (.bool true) [fSp L, fA C])))) := by unfold Comes; kernel_rfl
end
end Go.Proofs.YtphhepnldndbhaaGreatDoor.Dp
namespace Go.Proofs.YtphhepnldndbhaaGreatDoor.Dp
open Go Sx Go.Proofs.YtphhepnldndbhaaGreatDoor
def badD (L C : List (List CV)) (n j : Nat) : Bool := qyw (!amB C n (c0 (Sx.rowAt L j)) (c1 (Sx.rowAt L j)) (c2 (Sx.rowAt L j))) true (qyw (decide (c3 (Sx.rowAt L j) < 1)) true (qyw (decide (c4 (Sx.rowAt L j) < 1)) true (qyw (decide (c3 (Sx.rowAt L j) > 400)) true (qyw (decide (c4 (Sx.rowAt L j) > 400)) true
  (qyw (decide (w64 (c3 (Sx.rowAt L j) * c4 (Sx.rowAt L j)) > 400)) true (qyw (decide (0 < j)) (!ahdR (Sx.rowAt L (j - 1)) (Sx.rowAt L j)) false))))))
def wrgD (L C : List (List CV)) (n m : Nat) : Bool := anyN (badD L C n) m
theorem amB_mem {C : List (List CV)} {n : Nat} {s r c : Int} : amB C n s r c = memK (tkN C n) [s, r, c] := by
  rw [Bool.eq_iff_iff, memK_iff, mem_tkN]
  constructor
  · intro h
    obtain ⟨j, hj, e⟩ := anyN_true h
    obtain ⟨e1, e2, e3⟩ := eqP_iff.1 e
    exact ⟨j, hj, by unfold keyR; rw [e1, e2, e3]⟩
  · rintro ⟨j, hj, e⟩
    unfold keyR at e
    simp only [List.cons.injEq, and_true] at e
    cases hb : amB C n s r c with
    | true => rfl
    | false =>
      have := anyN_none hb j hj
      rw [eqP_iff.2 ⟨e.1.symm, e.2.1.symm, e.2.2.symm⟩] at this
      cases this
theorem cmP_ge {s r c s' r' c' : Int} : decide (cmP s r c s' r' c' ≥ 0) = !ahdB s r c s' r' c' := by
  cases h : ahdB s r c s' r' c' with
  | true => rw [cmP_of (ahdB_iff.1 h)]; rfl
  | false =>
    have hn : ¬ (s < s' ∨ s = s' ∧ (r < r' ∨ r = r' ∧ c < c')) := fun k => by rw [ahdB_iff.2 k] at h; cases h
    refine decide_eq_true ?_
    have gt : ∀ {a b : Int}, b < a → cmI a b = 1 := fun {a b} k => by unfold cmI; rw [decide_eq_false (by omega), decide_eq_true k]; rfl
    unfold cmP
    by_cases h1 : s = s'
    · subst h1
      rw [cmI_eq]
      by_cases h2 : r = r'
      · subst h2
        rw [cmI_eq]
        by_cases h3 : c = c'
        · subst h3; rw [cmI_eq]; exact Int.le_refl 0
        · rw [gt (show c' < c by omega)]; show (0 : Int) ≤ 1; decide
      · rw [gt (show r' < r by omega)]; show (0 : Int) ≤ 1; decide
    · rw [gt (show s' < s by omega)]; show (0 : Int) ≤ 1; decide
theorem badD_eq {L C : List (List CV)} {n j : Nat} : badD L C n j = badR L (tkN C n) j := by
  unfold badD badR ahdR
  rw [amB_mem, cmP_ge]
  cases hk : memK (tkN C n) [c0 (Sx.rowAt L j), c1 (Sx.rowAt L j), c2 (Sx.rowAt L j)] with
  | false =>
    rw [bcT (b := !false) rfl]
    symm
    by_cases h3 : c3 (Sx.rowAt L j) < 1
    · rw [bcT (decide_eq_true h3)]
    rw [bcF (decide_eq_false h3)]
    by_cases h4 : c4 (Sx.rowAt L j) < 1
    · rw [bcT (decide_eq_true h4)]
    rw [bcF (decide_eq_false h4)]
    by_cases h5 : c4 (Sx.rowAt L j) > w64 (Int.tdiv 400 (c3 (Sx.rowAt L j)))
    · rw [bcT (decide_eq_true h5)]
    rw [bcF (decide_eq_false h5), bcT (b := !false) rfl]
  | true =>
    rw [bcF (b := !true) rfl]
    by_cases h3 : c3 (Sx.rowAt L j) < 1
    · rw [bcT (decide_eq_true h3), bcT (decide_eq_true h3)]
    rw [bcF (decide_eq_false h3), bcF (decide_eq_false h3)]
    by_cases h4 : c4 (Sx.rowAt L j) < 1
    · rw [bcT (decide_eq_true h4), bcT (decide_eq_true h4)]
    rw [bcF (decide_eq_false h4), bcF (decide_eq_false h4)]
    have e : Int.tdiv 400 (c3 (Sx.rowAt L j)) = 400 / c3 (Sx.rowAt L j) := Int.tdiv_eq_ediv_of_nonneg (by decide)
    have b1 : 400 / c3 (Sx.rowAt L j) ≤ 400 := Int.ediv_le_self _ (by decide)
    have b2 : 0 ≤ 400 / c3 (Sx.rowAt L j) := Int.ediv_nonneg (by decide) (by omega)
    rw [e, qxy (a := 400 / c3 (Sx.rowAt L j)) (by omega) (by omega)]
    by_cases h5 : c3 (Sx.rowAt L j) > 400
    · have z : 400 / c3 (Sx.rowAt L j) = 0 := Int.ediv_eq_zero_of_lt (by decide) (by omega)
      rw [bcT (decide_eq_true h5), z, bcT (decide_eq_true (by omega))]
    rw [bcF (decide_eq_false h5)]
    by_cases h6 : c4 (Sx.rowAt L j) > 400
    · rw [bcT (decide_eq_true h6), bcT (decide_eq_true (by omega))]
    rw [bcF (decide_eq_false h6)]
    have p0 : 0 ≤ c3 (Sx.rowAt L j) * c4 (Sx.rowAt L j) := Int.mul_nonneg (by omega) (by omega)
    have p1 : c3 (Sx.rowAt L j) * c4 (Sx.rowAt L j) ≤ 400 * 400 := Int.mul_le_mul (by omega) (by omega) (by omega) (by decide)
    rw [qxy (a := c3 (Sx.rowAt L j) * c4 (Sx.rowAt L j)) (by omega) (by omega)]
    have q : c4 (Sx.rowAt L j) ≤ 400 / c3 (Sx.rowAt L j) ↔ c3 (Sx.rowAt L j) * c4 (Sx.rowAt L j) ≤ 400 := by
      rw [Int.le_ediv_iff_mul_le (by omega), Int.mul_comm]
    rw [show decide (c4 (Sx.rowAt L j) > 400 / c3 (Sx.rowAt L j)) = decide (c3 (Sx.rowAt L j) * c4 (Sx.rowAt L j) > 400) from by
      rw [Bool.eq_iff_iff, decide_eq_true_eq, decide_eq_true_eq]; omega, bcF (b := !true) rfl]
theorem wrgD_eq {L C : List (List CV)} {n m : Nat} : wrgD L C n m = wrgB L (tkN C n) m := by
  unfold wrgD wrgB
  rw [show badD L C n = badR L (tkN C n) from funext fun j => badD_eq]
open Classical in
theorem rRi_at {L C : List (List CV)} {m n j : Nat} (hj : j < m) (hm : m ≤ L.length) (hb : m ≤ 1000) (hn : n ≤ C.length) (hc : n ≤ 1000) : code (ent Tryz.prog tRi nolv 64 1 20) Tryz.prog {} 2 64 1 loopG (sRi L C m n (j : Int)) (endK 2 64 (fun n => hasN [0, 1, 5] n) (fun n => hasN [4] n)) = qyw (badD L C n j) (some (.ret, sRiF L C)) (some (.normal, sRi L C m n ((j + 1 : Nat) : Int))) := by
  have e1 : ixN (j : Int) m = true := ixN_nat hj
  have e2 : ckF (j : Int) L = true := ckF_nat (by omega)
  have e3 : inR1 (j : Int) L = true := by unfold inR1; rw [Int.toNat_natCast, decide_eq_true (by omega)]; rfl
  have e4 : decide (n ≤ C.length ∧ n ≤ 1000) = true := decide_eq_true ⟨hn, hc⟩
  rw [rRi, bcT (decide_eq_true (by omega)), Int.toNat_natCast]
  unfold badD
  have k1 : ∀ b ∈ [ixN (j : Int) m, ckF (j : Int) L, decide (n ≤ C.length ∧ n ≤ 1000)], b = true := by
    intro b hb
    simp only [List.mem_cons, List.not_mem_nil, or_false] at hb
    rcases hb with rfl | rfl | rfl
    · exact e1
    · exact e2
    · exact e4
  have k2 : ∀ b ∈ [ixN (j : Int) m, inR1 (j : Int) L], b = true := all2 e1 e3
  have k3 : ∀ b ∈ [ixN (j : Int) m, inR1 (j : Int) L, ixN (j : Int) m, inR1 (j : Int) L], b = true := by
    intro b hb
    simp only [List.mem_cons, List.not_mem_nil, or_false] at hb
    rcases hb with rfl | rfl | rfl | rfl
    · exact e1
    · exact e3
    · exact e1
    · exact e3
  rw [qzy k1]
  by_cases h0 : (!amB C n (c0 (Sx.rowAt L j)) (c1 (Sx.rowAt L j)) (c2 (Sx.rowAt L j))) = true
  · rw [bcT h0, bcT h0]; rfl
  have h0 := Bool.eq_false_iff.2 h0
  rw [bcF h0, bcF h0, qzy k2]
  by_cases h1 : c3 (Sx.rowAt L j) < 1
  · rw [bcT (decide_eq_true h1), bcT (decide_eq_true h1)]; rfl
  rw [bcF (decide_eq_false h1), bcF (decide_eq_false h1), qzy k2]
  by_cases h2 : c4 (Sx.rowAt L j) < 1
  · rw [bcT (decide_eq_true h2), bcT (decide_eq_true h2)]; rfl
  rw [bcF (decide_eq_false h2), bcF (decide_eq_false h2), qzy k2]
  by_cases h3 : c3 (Sx.rowAt L j) > 400
  · rw [bcT (decide_eq_true h3), bcT (decide_eq_true h3)]; rfl
  rw [bcF (decide_eq_false h3), bcF (decide_eq_false h3), qzy k2]
  by_cases h4 : c4 (Sx.rowAt L j) > 400
  · rw [bcT (decide_eq_true h4), bcT (decide_eq_true h4)]; rfl
  rw [bcF (decide_eq_false h4), bcF (decide_eq_false h4), qzy k3]
  by_cases h5 : w64 (c3 (Sx.rowAt L j) * c4 (Sx.rowAt L j)) > 400
  · rw [bcT (decide_eq_true h5), bcT (decide_eq_true h5)]; rfl
  rw [bcF (decide_eq_false h5), bcF (decide_eq_false h5)]
  unfold nxRi
  cases j with
  | zero => rw [bcF (b := decide (0 < 0)) rfl, bcF (b := decide (((0 : Nat) : Int) > 0)) rfl, up1_nat (by omega)]; rfl
  | succ k =>
    have hw : w64 (((k + 1 : Nat) : Int) - 1) = (k : Int) := by rw [qxy (by omega) (by omega)]; omega
    rw [bcT (b := decide (((k + 1 : Nat) : Int) > 0)) (decide_eq_true (by omega)), bcT (b := decide (0 < k + 1)) (decide_eq_true (by omega)), hw, up1_nat (by omega), Int.toNat_natCast, Int.toNat_natCast, show k + 1 - 1 = k by omega]
    refine qzy (fun b hb => ?_)
    simp only [List.mem_cons, List.not_mem_nil, or_false] at hb
    rcases hb with rfl | rfl | rfl | rfl
    · exact ixN_nat (by omega)
    · exact ckF_nat (by omega)
    · exact e1
    · exact e2
open Classical in
theorem loopRi {L C : List (List CV)} {m n : Nat} (hm : m ≤ L.length) (hb : m ≤ 1000) (hn : n ≤ C.length) (hc : n ≤ 1000) : (wrgD L C n m = true → Tri Tryz.prog (.loop loopG) (sRi L C m n 0).toA .ret (sRiF L C).toA 2) ∧ (wrgD L C n m = false → Tri Tryz.prog (.loop loopG) (sRi L C m n 0).toA (.exit 0) (sRiX L C).toA 2) := by
  refine tri_any (W := m) (badD L C n) (fun j => (sRi L C m n (j : Int)).toA) (fun e => by cases e) (fun e => by cases e) (fun j hj hh => ?_) (fun j hj hh => ?_) ?_
  · exact qzx tRi_ok ((rRi_at hj hm hb hn hc).trans (by rw [hh]; rfl))
  · exact qzx tRi_ok ((rRi_at hj hm hb hn hc).trans (by rw [hh]; rfl))
  · exact qzx tRi_ok ((rRi L C m n (m : Int)).trans (by rw [bcF (decide_eq_false (by omega))]))
open Classical in
noncomputable def eRtD : Ent := fun args pre => match args, pre with
  | [.dsl j m, .dsl j' n], [.raw (.flatR fl sh L), .raw (.flatR fl' sh' C)] => .chk (Nat.beq j 0 && !fl && shEq sh shS && Nat.beq j' 1 && !fl' && shEq sh' shA) (.chk (decide ((m ≤ L.length ∧ m ≤ 1000) ∧ n ≤ C.length ∧ n ≤ 1000)) (.br (wrgD L C n m) (.ret (.bool false) [.raw (.flatR fl sh L), .raw (.flatR fl' sh' C)]) (.ret (.bool true) [.raw (.flatR fl sh L), .raw (.flatR fl' sh' C)])))
  | _, _ => .fail
open Classical in
theorem eRtD_ok : EntOK Tryz.prog 32 eRtD := fun args pre => by
  unfold eRtD
  split
  · rename_i j m j' n fl sh L fl' sh' C
    refine ⟨fun g0 => ⟨fun g1 => ?_, fun _ => trivial⟩, fun _ => trivial⟩
    simp only [Bool.and_eq_true, beqT, Bool.not_eq_true'] at g0
    obtain ⟨⟨⟨⟨⟨rfl, rfl⟩, g⟩, rfl⟩, rfl⟩, g'⟩ := g0
    obtain rfl := shEq_of g
    obtain rfl := shEq_of g'
    obtain ⟨⟨h1, h2⟩, h3, h4⟩ := of_decide_eq_true g1
    have key := loopRi h1 h2 h3 h4
    refine ⟨fun hb => ?_, fun hb => ?_⟩
    · refine qyx (pre := [fSp L, fA C]) (post := [fSp L, fA C]) tRi_ok host ((ri_comes L C m n true true).trans ?_) (lvOne_ok (x := loopG) Tryz.func32 (by kernel_rfl) fun K t => eAt_ok (a := .chk true (.br true (.out .ret (sRiF L C)) (.out (.exit 0) (sRiX L C)))) ⟨fun _ => ⟨fun _ => key.1 hb, fun e => by cases e⟩, fun _ => trivial⟩ K t)
      rw [chkT (qzt _), chkT rfl, brT rfl]; rfl
    · refine qyx (pre := [fSp L, fA C]) (post := [fSp L, fA C]) tRi_ok host ((ri_comes L C m n true false).trans ?_) (lvOne_ok (x := loopG) Tryz.func32 (by kernel_rfl) fun K t => eAt_ok (a := .chk true (.br false (.out .ret (sRiF L C)) (.out (.exit 0) (sRiX L C)))) ⟨fun _ => ⟨(fun e => by cases e), fun _ => key.2 hb⟩, fun _ => trivial⟩ K t)
      rw [chkT (qzt _), chkT rfl, brF rfl]; rfl
  · trivial
end Go.Proofs.YtphhepnldndbhaaGreatDoor.Dp
namespace Go.Proofs.YtphhepnldndbhaaGreatDoor.Dp
open Go Sx Go.Proofs.YtphhepnldndbhaaGreatDoor
noncomputable abbrev loopB6 : Code := (qyu (bodyOf Tryz.f33)).headD .skip
noncomputable abbrev loopB12 : Code := ((qyu (bodyOf Tryz.f33)).drop 1).headD .skip
theorem ar14_comes (s r c h w : Int) : Comes [] nolv 21 [aA s r c h w] [] (.ret (aA s r c h w) []) := by unfold Comes; kernel_rfl
def eAr14 : Ent := fun args pre => match args, pre with
  | [.agg [.int .i64 s, .int .i64 r, .int .i64 c, .int .i64 h, .int .i64 w]], [] => .ret (aA s r c h w) []
  | _, _ => .fail
theorem eAr14_ok : EntOK Tryz.prog 21 eAr14 := fun args pre => by
  unfold eAr14
  split
  · exact qyx (pre := []) (post := []) .nil host (ar14_comes _ _ _ _ _) qyz
  · trivial
noncomputable def tBl : Tab := [(21, eAr14), (50, eIsD), (34, eHasD), (51, eMtD)]
theorem tBl_ok : TabOK Tryz.prog tBl := .cons eAr14_ok (.cons eIsD_ok (.cons eHasD_ok (.cons eMtD_ok .nil)))
section
variable (C P : List (List CV)) (pre : List (Option PObj)) (K n a : Nat) (pl : AV) (s r c h w i : Int) (o1 o2 b1 b2 : Bool)
def sB (i : Int) : qzw := ⟨none :: some (.dsl 0 n) :: some pl :: some (.ptr K 0) :: nn 3 ++ (some (.ptr (K + 1) 0) :: none :: some (.int .i64 i) :: nn 49), pre ++ (some (oS5 s r c h w) :: some (a5 s r c h w) :: nn 64)⟩
def sBX : qzw := ⟨nn 2 ++ (some pl :: nn 4 ++ (some (.ptr K 0) :: nn 51)), pre ++ (some (a5 s r c h w) :: nn 64)⟩
def sBR : qzw := ⟨nn 6 ++ (some (.bool true) :: nn 52), pre ++ nn 64⟩
def sBQ : qzw := ⟨nn 2 ++ (some pl :: nn 3 ++ (some (.bool true) :: some (.ptr K 0) :: nn 51)), pre ++ (some (a5 s r c h w) :: nn 64)⟩
def sC (i : Int) : qzw := ⟨nn 2 ++ (some pl :: nn 4 ++ (some (.ptr K 0) :: nn 3 ++ (some (.int .i64 i) :: nn 47))), pre ++ (some (a5 s r c h w) :: nn 64)⟩
def sCX : qzw := ⟨nn 59, pre ++ nn 64⟩
def pN : List (Option PObj) := [some (fA C)]
def pV : List (Option PObj) := [some (fA C), some (vS P)]
abbrev kB : Nat → Bool := fun n => hasN [1, 2, 3, 7, 9] n
abbrev kBX : Nat → Bool := fun n => hasN [2, 6, 7] n
abbrev kC : Nat → Bool := fun n => hasN [2, 7, 11] n
abbrev kCX : Nat → Bool := fun n => hasN [6] n
abbrev hasI (C : List (List CV)) (s r c h w i : Int) : Bool := hasB s r c h w (c0 (Sx.rowAt C i.toNat)) (c1 (Sx.rowAt C i.toNat)) (c2 (Sx.rowAt C i.toNat))
abbrev mtI (P : List (List CV)) (s r c h w i : Int) : Bool := meetB s r c h w (c0 (Sx.rowAt P i.toNat)) (c1 (Sx.rowAt P i.toNat)) (c2 (Sx.rowAt P i.toNat)) (c3 (Sx.rowAt P i.toNat)) (c4 (Sx.rowAt P i.toNat))
abbrev ckI (P : List (List CV)) (s r c h w i : Int) : Bool := inI r && inI c && inI (c1 (Sx.rowAt P i.toNat)) && inI (c2 (Sx.rowAt P i.toNat)) && areaB s r c h w && areaB (c0 (Sx.rowAt P i.toNat)) (c1 (Sx.rowAt P i.toNat)) (c2 (Sx.rowAt P i.toNat)) (c3 (Sx.rowAt P i.toNat)) (c4 (Sx.rowAt P i.toNat))
theorem r6n : code (ent Tryz.prog tBl nolv 64 1 20) Tryz.prog {} 1 64 1 loopB6 (sB (pN C) 1 n .qzz s r c h w i) (endK 1 64 kB kBX) = qyw (decide (i < (n : Int))) (chks (qyw (hasI C s r c h w i) (chks (qyw (!eqP (Sx.rowAt C i.toNat) s r c) (some (.ret, sBQ (pN C) 1 .qzz s r c h w)) (some (.normal, sB (pN C) 1 n .qzz s r c h w (up1 i)))) [ixN i n, ckF i C]) (some (.normal, sB (pN C) 1 n .qzz s r c h w (up1 i)))) [ixN i n, ckF i C, inI r && inI c]) (some (.exit 0, sBX (pN C) 1 .qzz s r c h w)) := by kernel_rfl
theorem r12n : code (ent Tryz.prog tBl nolv 64 1 20) Tryz.prog {} 1 64 1 loopB12 (sC (pN C) 1 .qzz s r c h w 0) (endK 1 64 kC kCX) = some (.exit 2, sCX (pN C)) := by kernel_rfl
noncomputable def lvBn : FuncId → Lv := lvOf 33 (fun i => if i = 6 then some [1, 2, 3, 7, 9] else if i = 12 then some [2, 7, 11] else none) (twoL 6 (eAt 1 (sB (pN C) 1 n .qzz s r c h w 0) (.chk o1 (.br b1 (.out .ret (sBQ (pN C) 1 .qzz s r c h w)) (.out (.exit 0) (sBX (pN C) 1 .qzz s r c h w))))) 12 (eAt 1 (sC (pN C) 1 .qzz s r c h w 0) (.chk o2 (.br b2 (.out .ret (sBR (pN C))) (.out (.exit 2) (sCX (pN C)))))))
theorem bln_comes : Comes tBl (lvBn C n s r c h w o1 o2 b1 b2) 33 [aA s r c h w, .dsl 0 n, .qzz] [fA C] (.chk (inI r && inI c) (.br (!areaB s r c h w) (.ret (.bool true) [fA C])
  (.chk (eqSt (sB (pN C) 1 n .qzz s r c h w 0) (sB (pN C) 1 n .qzz s r c h w 0)) (.chk o1 (.br b1 (.ret (.bool true) [fA C]) (.chk (eqSt (sC (pN C) 1 .qzz s r c h w 0) (sC (pN C) 1 .qzz s r c h w 0)) (.chk o2 (.br b2 (.ret (.bool true) [fA C]) (.ret (.bool false) [fA C]))))))))) := by unfold Comes; kernel_rfl
theorem r6v : code (ent Tryz.prog tBl nolv 64 1 20) Tryz.prog {} 2 64 1 loopB6 (sB (pV C P) 2 n (.vec 1 a) s r c h w i) (endK 2 64 kB kBX) = qyw (decide (i < (n : Int))) (chks (qyw (hasI C s r c h w i) (chks (qyw (!eqP (Sx.rowAt C i.toNat) s r c) (some (.ret, sBQ (pV C P) 2 (.vec 1 a) s r c h w)) (some (.normal, sB (pV C P) 2 n (.vec 1 a) s r c h w (up1 i)))) [ixN i n, ckF i C]) (some (.normal, sB (pV C P) 2 n (.vec 1 a) s r c h w (up1 i)))) [ixN i n, ckF i C, inI r && inI c]) (some (.exit 0, sBX (pV C P) 2 (.vec 1 a) s r c h w)) := by kernel_rfl
theorem r12v : code (ent Tryz.prog tBl nolv 64 1 20) Tryz.prog {} 2 64 1 loopB12 (sC (pV C P) 2 (.vec 1 a) s r c h w i) (endK 2 64 kC kCX) = qyw (decide (i < (a : Int))) (chks (qyw (mtI P s r c h w i) (some (.ret, sBR (pV C P))) (some (.normal, sC (pV C P) 2 (.vec 1 a) s r c h w (up1 i)))) [ixN i a, inR i P, ckI P s r c h w i]) (some (.exit 2, sCX (pV C P))) := by kernel_rfl
noncomputable def lvBv : FuncId → Lv := lvOf 33 (fun i => if i = 6 then some [1, 2, 3, 7, 9] else if i = 12 then some [2, 7, 11] else none) (twoL 6 (eAt 2 (sB (pV C P) 2 n (.vec 1 a) s r c h w 0) (.chk o1 (.br b1 (.out .ret (sBQ (pV C P) 2 (.vec 1 a) s r c h w)) (.out (.exit 0) (sBX (pV C P) 2 (.vec 1 a) s r c h w))))) 12 (eAt 2 (sC (pV C P) 2 (.vec 1 a) s r c h w 0) (.chk o2 (.br b2 (.out .ret (sBR (pV C P))) (.out (.exit 2) (sCX (pV C P)))))))
theorem blv_comes : Comes tBl (lvBv C P n a s r c h w o1 o2 b1 b2) 33 [aA s r c h w, .dsl 0 n, (.vec 1 a)] [fA C, vS P] (.chk (inI r && inI c) (.br (!areaB s r c h w) (.ret (.bool true) [fA C, vS P])
  (.chk (eqSt (sB (pV C P) 2 n (.vec 1 a) s r c h w 0) (sB (pV C P) 2 n (.vec 1 a) s r c h w 0)) (.chk o1 (.br b1 (.ret (.bool true) [fA C, vS P]) (.chk (eqSt (sC (pV C P) 2 (.vec 1 a) s r c h w 0) (sC (pV C P) 2 (.vec 1 a) s r c h w 0)) (.chk o2 (.br b2 (.ret (.bool true) [fA C, vS P]) (.ret (.bool false) [fA C, vS P]))))))))) := by unfold Comes; kernel_rfl
end
end Go.Proofs.YtphhepnldndbhaaGreatDoor.Dp
namespace Go.Proofs.YtphhepnldndbhaaGreatDoor.Dp
open Go Sx Go.Proofs.YtphhepnldndbhaaGreatDoor
def hitD (C : List (List CV)) (s r c h w : Int) (j : Nat) : Bool := qyw (hasB s r c h w (c0 (Sx.rowAt C j)) (c1 (Sx.rowAt C j)) (c2 (Sx.rowAt C j))) (!eqP (Sx.rowAt C j) s r c) false
def mtD (P : List (List CV)) (s r c h w : Int) (j : Nat) : Bool := meetB s r c h w (c0 (Sx.rowAt P j)) (c1 (Sx.rowAt P j)) (c2 (Sx.rowAt P j)) (c3 (Sx.rowAt P j)) (c4 (Sx.rowAt P j))
def blkD (C P : List (List CV)) (n a : Nat) (s r c h w : Int) : Bool := qyw (!areaB s r c h w) true (qyw (anyN (hitD C s r c h w) n) true (anyN (mtD P s r c h w) a))
def okBl (C P : List (List CV)) (n a : Nat) (s r c h w : Int) : Prop := (inI r = true ∧ inI c = true) ∧ (n ≤ C.length ∧ n ≤ 1000) ∧ (a ≤ P.length ∧ a ≤ 1000) ∧ ∀ j, j < a → (inI (c1 (Sx.rowAt P j)) = true ∧ inI (c2 (Sx.rowAt P j)) = true) ∧ areaB (c0 (Sx.rowAt P j)) (c1 (Sx.rowAt P j)) (c2 (Sx.rowAt P j)) (c3 (Sx.rowAt P j)) (c4 (Sx.rowAt P j)) = true
section
variable {C P : List (List CV)} {n a : Nat} {s r c h w : Int}
theorem loop6n (hi : inI r = true ∧ inI c = true) (hn : n ≤ C.length ∧ n ≤ 1000) : (anyN (hitD C s r c h w) n = true → Tri Tryz.prog (.loop loopB6) (sB (pN C) 1 n .qzz s r c h w 0).toA .ret (sBQ (pN C) 1 .qzz s r c h w).toA 1) ∧ (anyN (hitD C s r c h w) n = false → Tri Tryz.prog (.loop loopB6) (sB (pN C) 1 n .qzz s r c h w 0).toA (.exit 0) (sBX (pN C) 1 .qzz s r c h w).toA 1) := by
  have rd : ∀ j, j < n → code (ent Tryz.prog tBl nolv 64 1 20) Tryz.prog {} 1 64 1 loopB6 (sB (pN C) 1 n .qzz s r c h w (j : Int)) (endK 1 64 kB kBX) = qyw (hitD C s r c h w j) (some (.ret, sBQ (pN C) 1 .qzz s r c h w)) (some (.normal, sB (pN C) 1 n .qzz s r c h w ((j + 1 : Nat) : Int))) := fun j hj => by
    have k3 : ∀ b ∈ [ixN (j : Int) n, ckF (j : Int) C, inI r && inI c], b = true := by
      intro b hb
      simp only [List.mem_cons, List.not_mem_nil, or_false] at hb
      rcases hb with rfl | rfl | rfl
      · exact ixN_nat hj
      · exact ckF_nat (by omega)
      · rw [hi.1, hi.2]; rfl
    rw [r6n, bcT (decide_eq_true (by omega)), qzy k3, qzy (all2 (ixN_nat hj) (ckF_nat (by omega))), up1_nat (by omega)]
    unfold hasI hitD
    rw [Int.toNat_natCast]
    cases hasB s r c h w (c0 (Sx.rowAt C j)) (c1 (Sx.rowAt C j)) (c2 (Sx.rowAt C j)) <;> rfl
  refine tri_any (W := n) (hitD C s r c h w) (fun j => (sB (pN C) 1 n .qzz s r c h w (j : Int)).toA) (fun e => by cases e) (fun e => by cases e) (fun j hj hh => ?_) (fun j hj hh => ?_) ?_
  · exact qzx tBl_ok ((rd j hj).trans (by rw [hh]; rfl))
  · exact qzx tBl_ok ((rd j hj).trans (by rw [hh]; rfl))
  · exact qzx tBl_ok ((r6n C n s r c h w (n : Int)).trans (by rw [bcF (decide_eq_false (by omega))]))
theorem loop6v (hi : inI r = true ∧ inI c = true) (hn : n ≤ C.length ∧ n ≤ 1000) : (anyN (hitD C s r c h w) n = true → Tri Tryz.prog (.loop loopB6) (sB (pV C P) 2 n (.vec 1 a) s r c h w 0).toA .ret (sBQ (pV C P) 2 (.vec 1 a) s r c h w).toA 2) ∧ (anyN (hitD C s r c h w) n = false → Tri Tryz.prog (.loop loopB6) (sB (pV C P) 2 n (.vec 1 a) s r c h w 0).toA (.exit 0) (sBX (pV C P) 2 (.vec 1 a) s r c h w).toA 2) := by
  have rd : ∀ j, j < n → code (ent Tryz.prog tBl nolv 64 1 20) Tryz.prog {} 2 64 1 loopB6 (sB (pV C P) 2 n (.vec 1 a) s r c h w (j : Int)) (endK 2 64 kB kBX) = qyw (hitD C s r c h w j) (some (.ret, sBQ (pV C P) 2 (.vec 1 a) s r c h w)) (some (.normal, sB (pV C P) 2 n (.vec 1 a) s r c h w ((j + 1 : Nat) : Int))) := fun j hj => by
    have k3 : ∀ b ∈ [ixN (j : Int) n, ckF (j : Int) C, inI r && inI c], b = true := by
      intro b hb
      simp only [List.mem_cons, List.not_mem_nil, or_false] at hb
      rcases hb with rfl | rfl | rfl
      · exact ixN_nat hj
      · exact ckF_nat (by omega)
      · rw [hi.1, hi.2]; rfl
    rw [r6v, bcT (decide_eq_true (by omega)), qzy k3, qzy (all2 (ixN_nat hj) (ckF_nat (by omega))), up1_nat (by omega)]
    unfold hasI hitD
    rw [Int.toNat_natCast]
    cases hasB s r c h w (c0 (Sx.rowAt C j)) (c1 (Sx.rowAt C j)) (c2 (Sx.rowAt C j)) <;> rfl
  refine tri_any (W := n) (hitD C s r c h w) (fun j => (sB (pV C P) 2 n (.vec 1 a) s r c h w (j : Int)).toA) (fun e => by cases e) (fun e => by cases e) (fun j hj hh => ?_) (fun j hj hh => ?_) ?_
  · exact qzx tBl_ok ((rd j hj).trans (by rw [hh]; rfl))
  · exact qzx tBl_ok ((rd j hj).trans (by rw [hh]; rfl))
  · exact qzx tBl_ok ((r6v C P n a s r c h w (n : Int)).trans (by rw [bcF (decide_eq_false (by omega))]))
theorem loop12v (hA : areaB s r c h w = true) (ok : okBl C P n a s r c h w) : (anyN (mtD P s r c h w) a = true → Tri Tryz.prog (.loop loopB12) (sC (pV C P) 2 (.vec 1 a) s r c h w 0).toA .ret (sBR (pV C P)).toA 2) ∧ (anyN (mtD P s r c h w) a = false → Tri Tryz.prog (.loop loopB12) (sC (pV C P) 2 (.vec 1 a) s r c h w 0).toA (.exit 2) (sCX (pV C P)).toA 2) := by
  obtain ⟨hi, hn, ha, hp⟩ := ok
  have rd : ∀ j, j < a → code (ent Tryz.prog tBl nolv 64 1 20) Tryz.prog {} 2 64 1 loopB12 (sC (pV C P) 2 (.vec 1 a) s r c h w (j : Int)) (endK 2 64 kC kCX) = qyw (mtD P s r c h w j) (some (.ret, sBR (pV C P))) (some (.normal, sC (pV C P) 2 (.vec 1 a) s r c h w ((j + 1 : Nat) : Int))) := fun j hj => by
    have k3 : ∀ b ∈ [ixN (j : Int) a, inR (j : Int) P, ckI P s r c h w (j : Int)], b = true := by
      intro b hb
      simp only [List.mem_cons, List.not_mem_nil, or_false] at hb
      obtain ⟨⟨p1, p2⟩, p3⟩ := hp j hj
      rcases hb with rfl | rfl | rfl
      · exact ixN_nat hj
      · exact inR_nat (by omega)
      · unfold ckI; rw [Int.toNat_natCast, hi.1, hi.2, p1, p2, hA, p3]; rfl
    rw [r12v, bcT (decide_eq_true (by omega)), qzy k3, up1_nat (by omega)]
    unfold mtI mtD
    rw [Int.toNat_natCast]
  refine tri_any (W := a) (mtD P s r c h w) (fun j => (sC (pV C P) 2 (.vec 1 a) s r c h w (j : Int)).toA) (fun e => by cases e) (fun e => by cases e) (fun j hj hh => ?_) (fun j hj hh => ?_) ?_
  · exact qzx tBl_ok ((rd j hj).trans (by rw [hh]; rfl))
  · exact qzx tBl_ok ((rd j hj).trans (by rw [hh]; rfl))
  · exact qzx tBl_ok ((r12v C P a s r c h w (a : Int)).trans (by rw [bcF (decide_eq_false (by omega))]))
theorem bln_meets (ok : okBl C [] n 0 s r c h w) : Meets Tryz.prog 33 [aA s r c h w, .dsl 0 n, .qzz] ([fA C].map PObj.toA) (.bool (blkD C [] n 0 s r c h w)) ([fA C].map PObj.toA) := by
  have l6 := loop6n (s := s) (r := r) (c := c) (h := h) (w := w) ok.1 ok.2.1
  have ck : (inI r && inI c) = true := by rw [ok.1.1, ok.1.2]; rfl
  cases hA : areaB s r c h w with
  | false =>
    refine qyx (pre := [fA C]) (post := [fA C]) tBl_ok host ((bln_comes C n s r c h w false false false false).trans ?_) (lvTwo_ok (x := loopB6) (y := loopB12) Tryz.func33 (by kernel_rfl) (by kernel_rfl) (by kernel_rfl) (by decide) (fun K t => eAt_ok (a := .chk false (.br false (.out .ret (sBQ (pN C) 1 .qzz s r c h w)) (.out (.exit 0) (sBX (pN C) 1 .qzz s r c h w)))) ⟨(fun e => by cases e), fun _ => trivial⟩ K t) (fun K t => eAt_ok (a := .chk false (.br false (.out .ret (sBR (pN C))) (.out (.exit 2) (sCX (pN C))))) ⟨(fun e => by cases e), fun _ => trivial⟩ K t))
    rw [chkT ck, hA, brT (b := !false) rfl]; unfold blkD; rw [hA]; rfl
  | true =>
    cases h6 : anyN (hitD C s r c h w) n with
    | true =>
      refine qyx (pre := [fA C]) (post := [fA C]) tBl_ok host ((bln_comes C n s r c h w true false true false).trans ?_) (lvTwo_ok (x := loopB6) (y := loopB12) Tryz.func33 (by kernel_rfl) (by kernel_rfl) (by kernel_rfl) (by decide) (fun K t => eAt_ok (a := .chk true (.br true (.out .ret (sBQ (pN C) 1 .qzz s r c h w)) (.out (.exit 0) (sBX (pN C) 1 .qzz s r c h w)))) ⟨fun _ => ⟨fun _ => l6.1 h6, fun e => by cases e⟩, fun _ => trivial⟩ K t) (fun K t => eAt_ok (a := .chk false (.br false (.out .ret (sBR (pN C))) (.out (.exit 2) (sCX (pN C))))) ⟨(fun e => by cases e), fun _ => trivial⟩ K t))
      rw [chkT ck, hA, brF (b := !true) rfl, chkT (qzt _), chkT rfl, brT rfl]; unfold blkD; rw [hA, h6]; rfl
    | false =>
      have hl6 : LAnsOK Tryz.prog loopB6 1 (sB (pN C) 1 n .qzz s r c h w 0) (.chk true (.br false (.out .ret (sBQ (pN C) 1 .qzz s r c h w)) (.out (.exit 0) (sBX (pN C) 1 .qzz s r c h w)))) := ⟨fun _ => ⟨(fun e => by cases e), fun _ => l6.2 h6⟩, fun _ => trivial⟩
      refine qyx (pre := [fA C]) (post := [fA C]) tBl_ok host ((bln_comes C n s r c h w true true false false).trans ?_) (lvTwo_ok (x := loopB6) (y := loopB12) Tryz.func33 (by kernel_rfl) (by kernel_rfl) (by kernel_rfl) (by decide) (fun K t => eAt_ok hl6 K t) (fun K t => eAt_ok (a := .chk true (.br false (.out .ret (sBR (pN C))) (.out (.exit 2) (sCX (pN C))))) ⟨fun _ => ⟨(fun e => by cases e), fun _ => atOnce (fun e => by cases e) (qzx tBl_ok (r12n C s r c h w))⟩, fun _ => trivial⟩ K t))
      rw [chkT ck, hA, brF (b := !true) rfl, chkT (qzt _), chkT rfl, brF rfl, chkT (qzt _), chkT rfl, brF rfl]; unfold blkD; rw [hA, h6]; rfl
theorem blv_meets (ok : okBl C P n a s r c h w) : Meets Tryz.prog 33 [aA s r c h w, .dsl 0 n, (.vec 1 a)] ([fA C, vS P].map PObj.toA) (.bool (blkD C P n a s r c h w)) ([fA C, vS P].map PObj.toA) := by
  have l6 := loop6v (s := s) (r := r) (c := c) (h := h) (w := w) (P := P) (a := a) ok.1 ok.2.1
  have ck : (inI r && inI c) = true := by rw [ok.1.1, ok.1.2]; rfl
  cases hA : areaB s r c h w with
  | false =>
    refine qyx (pre := [fA C, vS P]) (post := [fA C, vS P]) tBl_ok host ((blv_comes C P n a s r c h w false false false false).trans ?_) (lvTwo_ok (x := loopB6) (y := loopB12) Tryz.func33 (by kernel_rfl) (by kernel_rfl) (by kernel_rfl) (by decide) (fun K t => eAt_ok (a := .chk false (.br false (.out .ret (sBQ (pV C P) 2 (.vec 1 a) s r c h w)) (.out (.exit 0) (sBX (pV C P) 2 (.vec 1 a) s r c h w)))) ⟨(fun e => by cases e), fun _ => trivial⟩ K t) (fun K t => eAt_ok (a := .chk false (.br false (.out .ret (sBR (pV C P))) (.out (.exit 2) (sCX (pV C P))))) ⟨(fun e => by cases e), fun _ => trivial⟩ K t))
    rw [chkT ck, hA, brT (b := !false) rfl]; unfold blkD; rw [hA]; rfl
  | true =>
    cases h6 : anyN (hitD C s r c h w) n with
    | true =>
      refine qyx (pre := [fA C, vS P]) (post := [fA C, vS P]) tBl_ok host ((blv_comes C P n a s r c h w true false true false).trans ?_) (lvTwo_ok (x := loopB6) (y := loopB12) Tryz.func33 (by kernel_rfl) (by kernel_rfl) (by kernel_rfl) (by decide) (fun K t => eAt_ok (a := .chk true (.br true (.out .ret (sBQ (pV C P) 2 (.vec 1 a) s r c h w)) (.out (.exit 0) (sBX (pV C P) 2 (.vec 1 a) s r c h w)))) ⟨fun _ => ⟨fun _ => l6.1 h6, fun e => by cases e⟩, fun _ => trivial⟩ K t) (fun K t => eAt_ok (a := .chk false (.br false (.out .ret (sBR (pV C P))) (.out (.exit 2) (sCX (pV C P))))) ⟨(fun e => by cases e), fun _ => trivial⟩ K t))
      rw [chkT ck, hA, brF (b := !true) rfl, chkT (qzt _), chkT rfl, brT rfl]; unfold blkD; rw [hA, h6]; rfl
    | false =>
      have hl6 : LAnsOK Tryz.prog loopB6 2 (sB (pV C P) 2 n (.vec 1 a) s r c h w 0) (.chk true (.br false (.out .ret (sBQ (pV C P) 2 (.vec 1 a) s r c h w)) (.out (.exit 0) (sBX (pV C P) 2 (.vec 1 a) s r c h w)))) := ⟨fun _ => ⟨(fun e => by cases e), fun _ => l6.2 h6⟩, fun _ => trivial⟩
      have l12 := loop12v hA ok
      cases h12 : anyN (mtD P s r c h w) a with
      | true =>
        refine qyx (pre := [fA C, vS P]) (post := [fA C, vS P]) tBl_ok host ((blv_comes C P n a s r c h w true true false true).trans ?_) (lvTwo_ok (x := loopB6) (y := loopB12) Tryz.func33 (by kernel_rfl) (by kernel_rfl) (by kernel_rfl) (by decide) (fun K t => eAt_ok hl6 K t) (fun K t => eAt_ok (a := .chk true (.br true (.out .ret (sBR (pV C P))) (.out (.exit 2) (sCX (pV C P))))) ⟨fun _ => ⟨fun _ => l12.1 h12, fun e => by cases e⟩, fun _ => trivial⟩ K t))
        rw [chkT ck, hA, brF (b := !true) rfl, chkT (qzt _), chkT rfl, brF rfl, chkT (qzt _), chkT rfl, brT rfl]; unfold blkD; rw [hA, h6, h12]; rfl
      | false =>
        refine qyx (pre := [fA C, vS P]) (post := [fA C, vS P]) tBl_ok host ((blv_comes C P n a s r c h w true true false false).trans ?_) (lvTwo_ok (x := loopB6) (y := loopB12) Tryz.func33 (by kernel_rfl) (by kernel_rfl) (by kernel_rfl) (by decide) (fun K t => eAt_ok hl6 K t) (fun K t => eAt_ok (a := .chk true (.br false (.out .ret (sBR (pV C P))) (.out (.exit 2) (sCX (pV C P))))) ⟨fun _ => ⟨(fun e => by cases e), fun _ => l12.2 h12⟩, fun _ => trivial⟩ K t))
        rw [chkT ck, hA, brF (b := !true) rfl, chkT (qzt _), chkT rfl, brF rfl, chkT (qzt _), chkT rfl, brF rfl]; unfold blkD; rw [hA, h6, h12]; rfl
end
open Classical in
noncomputable def eBlD : Ent := fun args pre => match args, pre with
  | [.agg [.int .i64 s, .int .i64 r, .int .i64 c, .int .i64 h, .int .i64 w], .dsl j n, .qzz], [.raw (.flatR fl sh C)] => .chk (Nat.beq j 0 && !fl && shEq sh shA) (.chk (decide (okBl C [] n 0 s r c h w)) (.ret (.bool (blkD C [] n 0 s r c h w)) [.raw (.flatR fl sh C)]))
  | [.agg [.int .i64 s, .int .i64 r, .int .i64 c, .int .i64 h, .int .i64 w], .dsl j n, .vec k a], [.raw (.flatR fl sh C), .vecR sh' P ty] => .chk (Nat.beq j 0 && !fl && shEq sh shA && Nat.beq k 1 && shEq sh' shS && Nat.beq ty 27) (.chk (decide (okBl C P n a s r c h w)) (.ret (.bool (blkD C P n a s r c h w)) [.raw (.flatR fl sh C), .vecR sh' P ty]))
  | _, _ => .fail
open Classical in
theorem eBlD_ok : EntOK Tryz.prog 33 eBlD := fun args pre => by
  unfold eBlD
  split
  · rename_i s r c h w j n fl sh C
    refine ⟨fun g0 => ⟨fun g1 => ?_, fun _ => trivial⟩, fun _ => trivial⟩
    simp only [Bool.and_eq_true, beqT, Bool.not_eq_true'] at g0
    obtain ⟨⟨rfl, rfl⟩, g⟩ := g0
    obtain rfl := shEq_of g
    exact bln_meets (of_decide_eq_true g1)
  · rename_i s r c h w j n k a fl sh C sh' P ty
    refine ⟨fun g0 => ⟨fun g1 => ?_, fun _ => trivial⟩, fun _ => trivial⟩
    simp only [Bool.and_eq_true, beqT, Bool.not_eq_true'] at g0
    obtain ⟨⟨⟨⟨⟨rfl, rfl⟩, g⟩, rfl⟩, g'⟩, rfl⟩ := g0
    obtain rfl := shEq_of g
    obtain rfl := shEq_of g'
    exact blv_meets (of_decide_eq_true g1)
  · trivial
end Go.Proofs.YtphhepnldndbhaaGreatDoor.Dp
namespace Go.Proofs.YtphhepnldndbhaaGreatDoor.Dp
open Go Sx Go.Proofs.YtphhepnldndbhaaGreatDoor
abbrev fPd : FuncId := 15
noncomputable abbrev bPd : Code := bodyOf Tryz.f15
noncomputable abbrev loopP : Code := (qyu bPd).headD .skip
open Classical in
noncomputable def eCeD (C : List (List CV)) : Ent := fun args pre => .chk (decide (Meets Tryz.prog fCe args (pre.map PObj.toA) (clV (clR pre.length C)) ((pre ++ clO C).map PObj.toA)))
  (.br (isNil C) (.ret (clV .qzz) pre) (.ret (clV (.vec pre.length C.length)) (pre ++ [vA C])))
open Classical in
theorem eCeD_ok (C : List (List CV)) : EntOK Tryz.prog fCe (eCeD C) := fun args pre => by
  unfold eCeD
  refine ⟨fun g => ?_, fun _ => trivial⟩
  have g := of_decide_eq_true g
  cases C with
  | nil =>
    have e : pre ++ clO [] = pre := by simp [clO]
    rw [e] at g
    exact ⟨fun _ => g, fun e => by cases e⟩
  | cons x C => exact ⟨(fun e => by cases e), fun _ => g⟩
open Classical in
noncomputable def ckCeD (C : List (List CV)) (pre : List PObj) : Bool := decide (Meets Tryz.prog fCe [bkW] (pre.map PObj.toA) (clV (clR pre.length C)) ((pre ++ clO C).map PObj.toA))
noncomputable def tPd (C : List (List CV)) : Tab := [(fCe, eCeD C), (32, eRtD), (33, eBlD)]
theorem qxw (C : List (List CV)) : TabOK Tryz.prog (tPd C) := .cons (eCeD_ok C) (.cons eRtD_ok (.cons eBlD_ok .nil))
abbrev kP7 : Nat → Bool := fun n => hasN [1, 7, 8] n
abbrev vwP7 : List (Nat × List CK) := [(7, shA)]
abbrev kPd : Nat → Bool := fun n => hasN [1, 7, 10, 11, 12] n
abbrev kPdX : Nat → Bool := fun n => hasN [10, 11] n
section
variable (X Y L C P B : List (List CV)) (pre : List (Option PObj)) (K p q m n a b : Nat) (pl bl : AV) (i : Int) (o bP bB : Bool) (t : List (Option PObj))
def sP7 : qzw := ⟨none :: some (.dsl 1 m) :: nn 5 ++ (some (.dsl K n) :: some (.int .i64 0) :: nn 49), pre ++ (some (fA C) :: nn 64)⟩
def sPd (i : Int) (t : List (Option PObj)) : qzw := ⟨none :: some (.dsl 1 m) :: nn 5 ++ (some (.dsl K n) :: nn 2 ++ (some pl :: some bl :: some (.int .i64 i) :: nn 45)), pre ++ (some (fA C) :: (t ++ nn 64))⟩
def sPdX (t : List (Option PObj)) : qzw := ⟨nn 10 ++ (some pl :: some bl :: nn 46), pre ++ (t ++ nn 64)⟩
abbrev blI (C P : List (List CV)) (n a : Nat) (L : List (List CV)) (i : Int) : Bool := blkD C P n a (c0 (Sx.rowAt L i.toNat)) (c1 (Sx.rowAt L i.toNat)) (c2 (Sx.rowAt L i.toNat)) (c3 (Sx.rowAt L i.toNat)) (c4 (Sx.rowAt L i.toNat))
open Classical in
noncomputable abbrev ckBl (C P : List (List CV)) (n a : Nat) (L : List (List CV)) (i : Int) : Bool := decide (okBl C P n a (c0 (Sx.rowAt L i.toNat)) (c1 (Sx.rowAt L i.toNat)) (c2 (Sx.rowAt L i.toNat)) (c3 (Sx.rowAt L i.toNat)) (c4 (Sx.rowAt L i.toNat)))
def sPof (pre : List (Option PObj)) (K m n : Nat) (C : List (List CV)) (i : Int) : List (List CV) → List (List CV) → qzw
  | [], [] => sPd C pre K m n .qzz .qzz i []
  | [], B => sPd C pre K m n .qzz (.vec (K + 1) B.length) i [some (vA B)]
  | P, [] => sPd C pre K m n (.vec (K + 1) P.length) .qzz i [some (vS P)]
  | P, B => sPd C pre K m n (.vec (K + 1) P.length) (.vec (K + 2) B.length) i [some (vS P), some (vA B)]
def sPofX (pre : List (Option PObj)) (K : Nat) : List (List CV) → List (List CV) → qzw
  | [], [] => sPdX pre .qzz .qzz []
  | [], B => sPdX pre .qzz (.vec K B.length) [some (vA B)]
  | P, [] => sPdX pre (.vec K P.length) .qzz [some (vS P)]
  | P, B => sPdX pre (.vec K P.length) (.vec (K + 1) B.length) [some (vS P), some (vA B)]
def outP (pre : List (Option PObj)) (K : Nat) (P B : List (List CV)) (a b : Nat) (c bP bB : Bool) : LAns := .chk c (.br bP (.br bB (.out (.exit 0) (sPdX pre .qzz .qzz [])) (.out (.exit 0) (sPdX pre .qzz (.vec K b) [some (vA B)])))
  (.br bB (.out (.exit 0) (sPdX pre (.vec K a) .qzz [some (vS P)])) (.out (.exit 0) (sPdX pre (.vec K a) (.vec (K + 1) b) [some (vS P), some (vA B)]))))
noncomputable def lvPd (pre : List (Option PObj)) (K m n : Nat) (C P B : List (List CV)) (a b : Nat) (c bP bB : Bool) : Lv := { keep := fun i => if i = 10 then some [1, 7, 10, 11, 12] else none, ent := oneL 10 (eAt K (sPd C pre K m n .qzz .qzz 0 []) (outP pre K P B a b c bP bB)) }
open Classical in
theorem hd_0 : runsC (ent Tryz.prog (tPd C) nolv 64 1 20) Tryz.prog {} 2 64 1 (endV 2 64 kP7 vwP7) 2 bPd (startP 58 [bkW, .dsl 1 m] [oSh .qzz .qzz, fSp L] 64) = chks (qyw (isNil C) (some (.normal, sP7 [] (pr0 L) 2 m 0)) (some (.normal, sP7 C (pr0 L) 2 m C.length))) [ckCeD C [oSh .qzz .qzz]] := by kernel_rfl
open Classical in
theorem rest_0 : code (ent (R := AV × List PObj) Tryz.prog (tPd C) nolv 64 1 20) Tryz.prog (lvPd (pr0 L) 2 m n C P B a b o bP bB) 2 64 1 (restC 2 bPd) (sP7 C (pr0 L) 2 m n) (finP Tryz.prog Tryz.f15 2 [oSh .qzz .qzz, fSp L] pure2)
  = chks (qyw (wrgD L C n m) (pure2 plE [oSh .qzz .qzz, fSp L]) (chks (qyw bP (qyw bB (pure2 (plV .qzz .qzz) [oSh .qzz .qzz, fSp L]) (pure2 (plV .qzz (.vec 2 b)) ([oSh .qzz .qzz, fSp L] ++ [vA B]))) (qyw bB (pure2 (plV (.vec 2 a) .qzz) ([oSh .qzz .qzz, fSp L] ++ [vS P])) (pure2 (plV (.vec 2 a) (.vec (2 + 1) b)) ([oSh .qzz .qzz, fSp L] ++ [vS P, vA B]))))
    [eqSt (sPd C (pr0 L) 2 m n .qzz .qzz 0 []) (sPd C (pr0 L) 2 m n .qzz .qzz 0 []), o])) [decide ((m ≤ L.length ∧ m ≤ 1000) ∧ n ≤ C.length ∧ n ≤ 1000)] := by kernel_rfl
open Classical in
theorem r000 : code (ent Tryz.prog (tPd C) nolv 64 1 20) Tryz.prog {} 2 64 1 loopP (sPd C (pr0 L) 2 m n .qzz .qzz i []) (endK 2 64 kPd kPdX) = qyw (decide (i < (m : Int))) (chks (qyw (blI C [] n 0 L i) (chks (some (.normal, (sPd C (pr0 L) 2 m n .qzz (.vec 3 1) (up1 i) [some (vA [atL1 L i])]))) [ixN i m, ckF i L]) (chks (some (.normal, (sPd C (pr0 L) 2 m n (.vec 3 1) .qzz (up1 i) [some (vS [spL1 L i])]))) [ixN i m, ckF i L])) [ixN i m, ckF i L, ckBl C [] n 0 L i]) (some (.exit 0, sPdX (pr0 L) .qzz .qzz [])) := by kernel_rfl
open Classical in
theorem r001 : code (ent Tryz.prog (tPd C) nolv 64 1 20) Tryz.prog {} 2 64 1 loopP (sPd C (pr0 L) 2 m n .qzz (.vec 3 B.length) i [some (vA B)]) (endK 2 64 kPd kPdX) = qyw (decide (i < (m : Int))) (chks (qyw (blI C [] n 0 L i) (chks (some (.normal, (sPd C (pr0 L) 2 m n .qzz (.vec 3 (B.length + 1)) (up1 i) [some (vA (B ++ [atL1 L i]))]))) [ixN i m, ckF i L, ckBv B]) (chks (some (.normal, (sPd C (pr0 L) 2 m n (.vec 3 1) (.vec 4 B.length) (up1 i) [some (vS [spL1 L i]), some (vA B)]))) [ixN i m, ckF i L])) [ixN i m, ckF i L, ckBl C [] n 0 L i]) (some (.exit 0, sPdX (pr0 L) .qzz (.vec 2 B.length) [some (vA B)])) := by kernel_rfl
open Classical in
theorem r010 : code (ent Tryz.prog (tPd C) nolv 64 1 20) Tryz.prog {} 2 64 1 loopP (sPd C (pr0 L) 2 m n (.vec 3 a) .qzz i [some (vS P)]) (endK 2 64 kPd kPdX) = qyw (decide (i < (m : Int))) (chks (qyw (blI C P n a L i) (chks (some (.normal, (sPd C (pr0 L) 2 m n (.vec 3 a) (.vec 4 1) (up1 i) [some (vS P), some (vA [atL1 L i])]))) [ixN i m, ckF i L]) (chks (some (.normal, (sPd C (pr0 L) 2 m n (.vec 3 (a + 1)) .qzz (up1 i) [some (vS (P ++ [spL1 L i]))]))) [ixN i m, ckF i L, ckPv P a])) [ixN i m, ckF i L, ckBl C P n a L i]) (some (.exit 0, sPdX (pr0 L) (.vec 2 a) .qzz [some (vS P)])) := by kernel_rfl
open Classical in
theorem r011 : code (ent Tryz.prog (tPd C) nolv 64 1 20) Tryz.prog {} 2 64 1 loopP (sPd C (pr0 L) 2 m n (.vec 3 a) (.vec 4 B.length) i [some (vS P), some (vA B)]) (endK 2 64 kPd kPdX) = qyw (decide (i < (m : Int))) (chks (qyw (blI C P n a L i) (chks (some (.normal, (sPd C (pr0 L) 2 m n (.vec 3 a) (.vec 4 (B.length + 1)) (up1 i) [some (vS P), some (vA (B ++ [atL1 L i]))]))) [ixN i m, ckF i L, ckBv B]) (chks (some (.normal, (sPd C (pr0 L) 2 m n (.vec 3 (a + 1)) (.vec 4 B.length) (up1 i) [some (vS (P ++ [spL1 L i])), some (vA B)]))) [ixN i m, ckF i L, ckPv P a])) [ixN i m, ckF i L, ckBl C P n a L i]) (some (.exit 0, sPdX (pr0 L) (.vec 2 a) (.vec 3 B.length) [some (vS P), some (vA B)])) := by kernel_rfl
open Classical in
theorem hd_x : runsC (ent Tryz.prog (tPd C) nolv 64 1 20) Tryz.prog {} 3 64 1 (endV 3 64 kP7 vwP7) 2 bPd (startP 58 [bkW, .dsl 1 m] [oSh (.vec 2 p) .qzz, fSp L, vC X] 64) = chks (qyw (isNil C) (some (.normal, sP7 [] (prX X L p) 3 m 0)) (some (.normal, sP7 C (prX X L p) 3 m C.length))) [ckCeD C [oSh (.vec 1 p) .qzz, vC X]] := by kernel_rfl
open Classical in
theorem rest_x : code (ent (R := AV × List PObj) Tryz.prog (tPd C) nolv 64 1 20) Tryz.prog (lvPd (prX X L p) 3 m n C P B a b o bP bB) 3 64 1 (restC 2 bPd) (sP7 C (prX X L p) 3 m n) (finP Tryz.prog Tryz.f15 3 [oSh (.vec 2 p) .qzz, fSp L, vC X] pure2)
  = chks (qyw (wrgD L C n m) (pure2 plE [oSh (.vec 2 p) .qzz, fSp L, vC X]) (chks (qyw bP (qyw bB (pure2 (plV .qzz .qzz) [oSh (.vec 2 p) .qzz, fSp L, vC X]) (pure2 (plV .qzz (.vec 3 b)) ([oSh (.vec 2 p) .qzz, fSp L, vC X] ++ [vA B]))) (qyw bB (pure2 (plV (.vec 3 a) .qzz) ([oSh (.vec 2 p) .qzz, fSp L, vC X] ++ [vS P])) (pure2 (plV (.vec 3 a) (.vec (3 + 1) b)) ([oSh (.vec 2 p) .qzz, fSp L, vC X] ++ [vS P, vA B]))))
    [eqSt (sPd C (prX X L p) 3 m n .qzz .qzz 0 []) (sPd C (prX X L p) 3 m n .qzz .qzz 0 []), o])) [decide ((m ≤ L.length ∧ m ≤ 1000) ∧ n ≤ C.length ∧ n ≤ 1000)] := by kernel_rfl
open Classical in
theorem rx00 : code (ent Tryz.prog (tPd C) nolv 64 1 20) Tryz.prog {} 3 64 1 loopP (sPd C (prX X L p) 3 m n .qzz .qzz i []) (endK 3 64 kPd kPdX) = qyw (decide (i < (m : Int))) (chks (qyw (blI C [] n 0 L i) (chks (some (.normal, (sPd C (prX X L p) 3 m n .qzz (.vec 4 1) (up1 i) [some (vA [atL1 L i])]))) [ixN i m, ckF i L]) (chks (some (.normal, (sPd C (prX X L p) 3 m n (.vec 4 1) .qzz (up1 i) [some (vS [spL1 L i])]))) [ixN i m, ckF i L])) [ixN i m, ckF i L, ckBl C [] n 0 L i]) (some (.exit 0, sPdX (prX X L p) .qzz .qzz [])) := by kernel_rfl
open Classical in
theorem rx01 : code (ent Tryz.prog (tPd C) nolv 64 1 20) Tryz.prog {} 3 64 1 loopP (sPd C (prX X L p) 3 m n .qzz (.vec 4 B.length) i [some (vA B)]) (endK 3 64 kPd kPdX) = qyw (decide (i < (m : Int))) (chks (qyw (blI C [] n 0 L i) (chks (some (.normal, (sPd C (prX X L p) 3 m n .qzz (.vec 4 (B.length + 1)) (up1 i) [some (vA (B ++ [atL1 L i]))]))) [ixN i m, ckF i L, ckBv B]) (chks (some (.normal, (sPd C (prX X L p) 3 m n (.vec 4 1) (.vec 5 B.length) (up1 i) [some (vS [spL1 L i]), some (vA B)]))) [ixN i m, ckF i L])) [ixN i m, ckF i L, ckBl C [] n 0 L i]) (some (.exit 0, sPdX (prX X L p) .qzz (.vec 3 B.length) [some (vA B)])) := by kernel_rfl
open Classical in
theorem rx10 : code (ent Tryz.prog (tPd C) nolv 64 1 20) Tryz.prog {} 3 64 1 loopP (sPd C (prX X L p) 3 m n (.vec 4 a) .qzz i [some (vS P)]) (endK 3 64 kPd kPdX) = qyw (decide (i < (m : Int))) (chks (qyw (blI C P n a L i) (chks (some (.normal, (sPd C (prX X L p) 3 m n (.vec 4 a) (.vec 5 1) (up1 i) [some (vS P), some (vA [atL1 L i])]))) [ixN i m, ckF i L]) (chks (some (.normal, (sPd C (prX X L p) 3 m n (.vec 4 (a + 1)) .qzz (up1 i) [some (vS (P ++ [spL1 L i]))]))) [ixN i m, ckF i L, ckPv P a])) [ixN i m, ckF i L, ckBl C P n a L i]) (some (.exit 0, sPdX (prX X L p) (.vec 3 a) .qzz [some (vS P)])) := by kernel_rfl
open Classical in
theorem rx11 : code (ent Tryz.prog (tPd C) nolv 64 1 20) Tryz.prog {} 3 64 1 loopP (sPd C (prX X L p) 3 m n (.vec 4 a) (.vec 5 B.length) i [some (vS P), some (vA B)]) (endK 3 64 kPd kPdX) = qyw (decide (i < (m : Int))) (chks (qyw (blI C P n a L i) (chks (some (.normal, (sPd C (prX X L p) 3 m n (.vec 4 a) (.vec 5 (B.length + 1)) (up1 i) [some (vS P), some (vA (B ++ [atL1 L i]))]))) [ixN i m, ckF i L, ckBv B]) (chks (some (.normal, (sPd C (prX X L p) 3 m n (.vec 4 (a + 1)) (.vec 5 B.length) (up1 i) [some (vS (P ++ [spL1 L i])), some (vA B)]))) [ixN i m, ckF i L, ckPv P a])) [ixN i m, ckF i L, ckBl C P n a L i]) (some (.exit 0, sPdX (prX X L p) (.vec 3 a) (.vec 4 B.length) [some (vS P), some (vA B)])) := by kernel_rfl
open Classical in
theorem hd_y : runsC (ent Tryz.prog (tPd C) nolv 64 1 20) Tryz.prog {} 3 64 1 (endV 3 64 kP7 vwP7) 2 bPd (startP 58 [bkW, .dsl 1 m] [oSh .qzz (.vec 2 q), fSp L, vC Y] 64) = chks (qyw (isNil C) (some (.normal, sP7 [] (prY Y L q) 3 m 0)) (some (.normal, sP7 C (prY Y L q) 3 m C.length))) [ckCeD C [oSh .qzz (.vec 1 q), vC Y]] := by kernel_rfl
open Classical in
theorem rest_y : code (ent (R := AV × List PObj) Tryz.prog (tPd C) nolv 64 1 20) Tryz.prog (lvPd (prY Y L q) 3 m n C P B a b o bP bB) 3 64 1 (restC 2 bPd) (sP7 C (prY Y L q) 3 m n) (finP Tryz.prog Tryz.f15 3 [oSh .qzz (.vec 2 q), fSp L, vC Y] pure2)
  = chks (qyw (wrgD L C n m) (pure2 plE [oSh .qzz (.vec 2 q), fSp L, vC Y]) (chks (qyw bP (qyw bB (pure2 (plV .qzz .qzz) [oSh .qzz (.vec 2 q), fSp L, vC Y]) (pure2 (plV .qzz (.vec 3 b)) ([oSh .qzz (.vec 2 q), fSp L, vC Y] ++ [vA B]))) (qyw bB (pure2 (plV (.vec 3 a) .qzz) ([oSh .qzz (.vec 2 q), fSp L, vC Y] ++ [vS P])) (pure2 (plV (.vec 3 a) (.vec (3 + 1) b)) ([oSh .qzz (.vec 2 q), fSp L, vC Y] ++ [vS P, vA B]))))
    [eqSt (sPd C (prY Y L q) 3 m n .qzz .qzz 0 []) (sPd C (prY Y L q) 3 m n .qzz .qzz 0 []), o])) [decide ((m ≤ L.length ∧ m ≤ 1000) ∧ n ≤ C.length ∧ n ≤ 1000)] := by kernel_rfl
open Classical in
theorem ry00 : code (ent Tryz.prog (tPd C) nolv 64 1 20) Tryz.prog {} 3 64 1 loopP (sPd C (prY Y L q) 3 m n .qzz .qzz i []) (endK 3 64 kPd kPdX) = qyw (decide (i < (m : Int))) (chks (qyw (blI C [] n 0 L i) (chks (some (.normal, (sPd C (prY Y L q) 3 m n .qzz (.vec 4 1) (up1 i) [some (vA [atL1 L i])]))) [ixN i m, ckF i L]) (chks (some (.normal, (sPd C (prY Y L q) 3 m n (.vec 4 1) .qzz (up1 i) [some (vS [spL1 L i])]))) [ixN i m, ckF i L])) [ixN i m, ckF i L, ckBl C [] n 0 L i]) (some (.exit 0, sPdX (prY Y L q) .qzz .qzz [])) := by kernel_rfl
open Classical in
theorem ry01 : code (ent Tryz.prog (tPd C) nolv 64 1 20) Tryz.prog {} 3 64 1 loopP (sPd C (prY Y L q) 3 m n .qzz (.vec 4 B.length) i [some (vA B)]) (endK 3 64 kPd kPdX) = qyw (decide (i < (m : Int))) (chks (qyw (blI C [] n 0 L i) (chks (some (.normal, (sPd C (prY Y L q) 3 m n .qzz (.vec 4 (B.length + 1)) (up1 i) [some (vA (B ++ [atL1 L i]))]))) [ixN i m, ckF i L, ckBv B]) (chks (some (.normal, (sPd C (prY Y L q) 3 m n (.vec 4 1) (.vec 5 B.length) (up1 i) [some (vS [spL1 L i]), some (vA B)]))) [ixN i m, ckF i L])) [ixN i m, ckF i L, ckBl C [] n 0 L i]) (some (.exit 0, sPdX (prY Y L q) .qzz (.vec 3 B.length) [some (vA B)])) := by kernel_rfl
open Classical in
theorem ry10 : code (ent Tryz.prog (tPd C) nolv 64 1 20) Tryz.prog {} 3 64 1 loopP (sPd C (prY Y L q) 3 m n (.vec 4 a) .qzz i [some (vS P)]) (endK 3 64 kPd kPdX) = qyw (decide (i < (m : Int))) (chks (qyw (blI C P n a L i) (chks (some (.normal, (sPd C (prY Y L q) 3 m n (.vec 4 a) (.vec 5 1) (up1 i) [some (vS P), some (vA [atL1 L i])]))) [ixN i m, ckF i L]) (chks (some (.normal, (sPd C (prY Y L q) 3 m n (.vec 4 (a + 1)) .qzz (up1 i) [some (vS (P ++ [spL1 L i]))]))) [ixN i m, ckF i L, ckPv P a])) [ixN i m, ckF i L, ckBl C P n a L i]) (some (.exit 0, sPdX (prY Y L q) (.vec 3 a) .qzz [some (vS P)])) := by kernel_rfl
open Classical in
theorem ry11 : code (ent Tryz.prog (tPd C) nolv 64 1 20) Tryz.prog {} 3 64 1 loopP (sPd C (prY Y L q) 3 m n (.vec 4 a) (.vec 5 B.length) i [some (vS P), some (vA B)]) (endK 3 64 kPd kPdX) = qyw (decide (i < (m : Int))) (chks (qyw (blI C P n a L i) (chks (some (.normal, (sPd C (prY Y L q) 3 m n (.vec 4 a) (.vec 5 (B.length + 1)) (up1 i) [some (vS P), some (vA (B ++ [atL1 L i]))]))) [ixN i m, ckF i L, ckBv B]) (chks (some (.normal, (sPd C (prY Y L q) 3 m n (.vec 4 (a + 1)) (.vec 5 B.length) (up1 i) [some (vS (P ++ [spL1 L i])), some (vA B)]))) [ixN i m, ckF i L, ckPv P a])) [ixN i m, ckF i L, ckBl C P n a L i]) (some (.exit 0, sPdX (prY Y L q) (.vec 3 a) (.vec 4 B.length) [some (vS P), some (vA B)])) := by kernel_rfl
open Classical in
theorem hd_b : runsC (ent Tryz.prog (tPd C) nolv 64 1 20) Tryz.prog {} 4 64 1 (endV 4 64 kP7 vwP7) 2 bPd (startP 58 [bkW, .dsl 1 m] [oSh (.vec 2 p) (.vec 3 q), fSp L, vC X, vC Y] 64) = chks (qyw (isNil C) (some (.normal, sP7 [] (prB X Y L p q) 4 m 0)) (some (.normal, sP7 C (prB X Y L p q) 4 m C.length))) [ckCeD C [oSh (.vec 1 p) (.vec 2 q), vC X, vC Y]] := by kernel_rfl
open Classical in
theorem rest_b : code (ent (R := AV × List PObj) Tryz.prog (tPd C) nolv 64 1 20) Tryz.prog (lvPd (prB X Y L p q) 4 m n C P B a b o bP bB) 4 64 1 (restC 2 bPd) (sP7 C (prB X Y L p q) 4 m n) (finP Tryz.prog Tryz.f15 4 [oSh (.vec 2 p) (.vec 3 q), fSp L, vC X, vC Y] pure2)
  = chks (qyw (wrgD L C n m) (pure2 plE [oSh (.vec 2 p) (.vec 3 q), fSp L, vC X, vC Y]) (chks (qyw bP (qyw bB (pure2 (plV .qzz .qzz) [oSh (.vec 2 p) (.vec 3 q), fSp L, vC X, vC Y]) (pure2 (plV .qzz (.vec 4 b)) ([oSh (.vec 2 p) (.vec 3 q), fSp L, vC X, vC Y] ++ [vA B]))) (qyw bB (pure2 (plV (.vec 4 a) .qzz) ([oSh (.vec 2 p) (.vec 3 q), fSp L, vC X, vC Y] ++ [vS P])) (pure2 (plV (.vec 4 a) (.vec (4 + 1) b)) ([oSh (.vec 2 p) (.vec 3 q), fSp L, vC X, vC Y] ++ [vS P, vA B]))))
    [eqSt (sPd C (prB X Y L p q) 4 m n .qzz .qzz 0 []) (sPd C (prB X Y L p q) 4 m n .qzz .qzz 0 []), o])) [decide ((m ≤ L.length ∧ m ≤ 1000) ∧ n ≤ C.length ∧ n ≤ 1000)] := by kernel_rfl
open Classical in
theorem rb00 : code (ent Tryz.prog (tPd C) nolv 64 1 20) Tryz.prog {} 4 64 1 loopP (sPd C (prB X Y L p q) 4 m n .qzz .qzz i []) (endK 4 64 kPd kPdX) = qyw (decide (i < (m : Int))) (chks (qyw (blI C [] n 0 L i) (chks (some (.normal, (sPd C (prB X Y L p q) 4 m n .qzz (.vec 5 1) (up1 i) [some (vA [atL1 L i])]))) [ixN i m, ckF i L]) (chks (some (.normal, (sPd C (prB X Y L p q) 4 m n (.vec 5 1) .qzz (up1 i) [some (vS [spL1 L i])]))) [ixN i m, ckF i L])) [ixN i m, ckF i L, ckBl C [] n 0 L i]) (some (.exit 0, sPdX (prB X Y L p q) .qzz .qzz [])) := by kernel_rfl
open Classical in
theorem rb01 : code (ent Tryz.prog (tPd C) nolv 64 1 20) Tryz.prog {} 4 64 1 loopP (sPd C (prB X Y L p q) 4 m n .qzz (.vec 5 B.length) i [some (vA B)]) (endK 4 64 kPd kPdX) = qyw (decide (i < (m : Int))) (chks (qyw (blI C [] n 0 L i) (chks (some (.normal, (sPd C (prB X Y L p q) 4 m n .qzz (.vec 5 (B.length + 1)) (up1 i) [some (vA (B ++ [atL1 L i]))]))) [ixN i m, ckF i L, ckBv B]) (chks (some (.normal, (sPd C (prB X Y L p q) 4 m n (.vec 5 1) (.vec 6 B.length) (up1 i) [some (vS [spL1 L i]), some (vA B)]))) [ixN i m, ckF i L])) [ixN i m, ckF i L, ckBl C [] n 0 L i]) (some (.exit 0, sPdX (prB X Y L p q) .qzz (.vec 4 B.length) [some (vA B)])) := by kernel_rfl
open Classical in
theorem rb10 : code (ent Tryz.prog (tPd C) nolv 64 1 20) Tryz.prog {} 4 64 1 loopP (sPd C (prB X Y L p q) 4 m n (.vec 5 a) .qzz i [some (vS P)]) (endK 4 64 kPd kPdX) = qyw (decide (i < (m : Int))) (chks (qyw (blI C P n a L i) (chks (some (.normal, (sPd C (prB X Y L p q) 4 m n (.vec 5 a) (.vec 6 1) (up1 i) [some (vS P), some (vA [atL1 L i])]))) [ixN i m, ckF i L]) (chks (some (.normal, (sPd C (prB X Y L p q) 4 m n (.vec 5 (a + 1)) .qzz (up1 i) [some (vS (P ++ [spL1 L i]))]))) [ixN i m, ckF i L, ckPv P a])) [ixN i m, ckF i L, ckBl C P n a L i]) (some (.exit 0, sPdX (prB X Y L p q) (.vec 4 a) .qzz [some (vS P)])) := by kernel_rfl
open Classical in
theorem rb11 : code (ent Tryz.prog (tPd C) nolv 64 1 20) Tryz.prog {} 4 64 1 loopP (sPd C (prB X Y L p q) 4 m n (.vec 5 a) (.vec 6 B.length) i [some (vS P), some (vA B)]) (endK 4 64 kPd kPdX) = qyw (decide (i < (m : Int))) (chks (qyw (blI C P n a L i) (chks (some (.normal, (sPd C (prB X Y L p q) 4 m n (.vec 5 a) (.vec 6 (B.length + 1)) (up1 i) [some (vS P), some (vA (B ++ [atL1 L i]))]))) [ixN i m, ckF i L, ckBv B]) (chks (some (.normal, (sPd C (prB X Y L p q) 4 m n (.vec 5 (a + 1)) (.vec 6 B.length) (up1 i) [some (vS (P ++ [spL1 L i])), some (vA B)]))) [ixN i m, ckF i L, ckPv P a])) [ixN i m, ckF i L, ckBl C P n a L i]) (some (.exit 0, sPdX (prB X Y L p q) (.vec 4 a) (.vec 5 B.length) [some (vS P), some (vA B)])) := by kernel_rfl
end
end Go.Proofs.YtphhepnldndbhaaGreatDoor.Dp
namespace Go.Proofs.YtphhepnldndbhaaGreatDoor.Dp
open Go Sx Go.Proofs.YtphhepnldndbhaaGreatDoor
def Fitw (y : List CV) : Prop := (0 ≤ c0 y ∧ c0 y < 8) ∧ (0 ≤ c1 y ∧ c1 y + c3 y ≤ 200) ∧ (0 ≤ c2 y ∧ c2 y + c4 y ≤ 52) ∧ 1 ≤ c3 y ∧ 1 ≤ c4 y
theorem hasW_iff {y : List CV} (h : Fitw y) {s r c : Int} : hasR y s r c = true ↔ Within y s r c := by
  obtain ⟨h0, h1, h2, h3, h4⟩ := h
  have ha : areaB (c0 y) (c1 y) (c2 y) (c3 y) (c4 y) = true := (areaB_iff (inI_iff.2 ⟨by omega, by omega⟩) (inI_iff.2 ⟨by omega, by omega⟩)).2 (by omega)
  unfold hasR hasB hasC Within
  rw [allB_iff, ha, qxy (a := c1 y + c3 y) (by omega) (by omega), qxy (a := c2 y + c4 y) (by omega) (by omega)]
  simp only [List.mem_cons, List.not_mem_nil, or_false, forall_eq_or_imp, forall_eq, decide_eq_true_eq, Bool.not_eq_true', bne_eq_false_iff_eq, true_and, ge_iff_le, and_assoc]
theorem inW_iff {y : List CV} (h : Fitw y) {s r c : Int} : inA y [s, r, c] ↔ Within y s r c := by
  obtain ⟨h0, h1, h2, h3, h4⟩ := h
  unfold inA Within keyI
  constructor
  · rintro ⟨i, j, hi, hj, e⟩
    rw [qxy (by omega) (by omega), qxy (by omega) (by omega)] at e
    simp only [List.cons.injEq, and_true] at e
    omega
  · rintro ⟨e, h5, h6⟩
    refine ⟨(r - c1 y).toNat, (c - c2 y).toNat, by omega, by omega, ?_⟩
    rw [qxy (by omega) (by omega), qxy (by omega) (by omega)]
    simp only [List.cons.injEq, and_true]
    omega
theorem mtW_iff {x y : List CV} (hx : Fitw x) (hy : Fitw y) : mtR2 x y = true ↔ c0 x = c0 y ∧ (c1 x < c1 y + c3 y ∧ c1 y < c1 x + c3 x) ∧ c2 x < c2 y + c4 y ∧ c2 y < c2 x + c4 x := by
  obtain ⟨h0, h1, h2, h3, h4⟩ := hx
  obtain ⟨g0, g1, g2, g3, g4⟩ := hy
  have ha : areaB (c0 x) (c1 x) (c2 x) (c3 x) (c4 x) = true := (areaB_iff (inI_iff.2 ⟨by omega, by omega⟩) (inI_iff.2 ⟨by omega, by omega⟩)).2 (by omega)
  have hb : areaB (c0 y) (c1 y) (c2 y) (c3 y) (c4 y) = true := (areaB_iff (inI_iff.2 ⟨by omega, by omega⟩) (inI_iff.2 ⟨by omega, by omega⟩)).2 (by omega)
  have er : ∀ {a b : Int}, 0 ≤ a ∧ a ≤ 1000 → 0 ≤ b ∧ b ≤ 1000 → 0 ≤ mxI a b ∧ mxI a b ≤ 1000 := fun ha hb => by unfold mxI; split <;> omega
  have e1 := er (a := c1 x) (b := c1 y) ⟨by omega, by omega⟩ ⟨by omega, by omega⟩
  have e2 := er (a := c2 x) (b := c2 y) ⟨by omega, by omega⟩ ⟨by omega, by omega⟩
  have eH : mtH (c1 x) (c3 x) (c1 y) (c3 y) = (if c1 y + c3 y < c1 x + c3 x then c1 y + c3 y else c1 x + c3 x) - (if c1 y > c1 x then c1 y else c1 x) := by
    unfold mtH
    rw [qxy (a := c1 x + c3 x) (by omega) (by omega), qxy (a := c1 y + c3 y) (by omega) (by omega)]
    show w64 ((if c1 y + c3 y < c1 x + c3 x then c1 y + c3 y else c1 x + c3 x) - (if c1 y > c1 x then c1 y else c1 x)) = _
    exact qxy (by split <;> split <;> omega) (by split <;> split <;> omega)
  have eW : mtW (c2 x) (c4 x) (c2 y) (c4 y) = (if c2 y + c4 y < c2 x + c4 x then c2 y + c4 y else c2 x + c4 x) - (if c2 y > c2 x then c2 y else c2 x) := by
    unfold mtW
    rw [qxy (a := c2 x + c4 x) (by omega) (by omega), qxy (a := c2 y + c4 y) (by omega) (by omega)]
    show w64 ((if c2 y + c4 y < c2 x + c4 x then c2 y + c4 y else c2 x + c4 x) - (if c2 y > c2 x then c2 y else c2 x)) = _
    exact qxy (by split <;> split <;> omega) (by split <;> split <;> omega)
  unfold mtR2 meetB meetC
  rw [allB_iff, ha, hb, eH, eW]
  simp only [List.mem_cons, List.not_mem_nil, or_false, forall_eq_or_imp, forall_eq, Bool.not_eq_true', bne_eq_false_iff_eq, true_and]
  unfold mtR mtC
  rw [areaB_iff (inI_iff.2 ⟨by omega, by omega⟩) (inI_iff.2 ⟨by omega, by omega⟩)]
  show _ ∧ _ ∧ (_ ∧ _ ∧ _ ≤ 200 - (if c1 y > c1 x then c1 y else c1 x)) ∧ _ ∧ _ ∧ _ ≤ 52 - (if c2 y > c2 x then c2 y else c2 x) ↔ _
  unfold mxI at *
  constructor
  · rintro ⟨k0, _, ⟨_, k1, _⟩, _, k2, _⟩
    refine ⟨k0, ?_, ?_⟩
    · split at k1 <;> split at k1 <;> omega
    · split at k2 <;> split at k2 <;> omega
  · rintro ⟨k0, ⟨k1, k2⟩, k3, k4⟩
    refine ⟨k0, ⟨by omega, by omega⟩, ⟨by omega, ?_, ?_⟩, by omega, ?_, ?_⟩
    · split <;> split <;> omega
    · split <;> split <;> omega
    · split <;> split <;> omega
    · split <;> split <;> omega
theorem mtW_within {x y : List CV} (hx : Fitw x) (hy : Fitw y) (h : mtR2 x y = true) : ∃ s r c, Within x s r c ∧ Within y s r c := by
  obtain ⟨k0, k1, k2⟩ := (mtW_iff hx hy).1 h
  obtain ⟨h0, h1, h2, h3, h4⟩ := hx
  obtain ⟨g0, g1, g2, g3, g4⟩ := hy
  refine ⟨c0 x, max (c1 x) (c1 y), max (c2 x) (c2 y), ⟨rfl, by omega, by omega⟩, k0.symm, by omega, by omega⟩
theorem within_mtW {x y : List CV} (hx : Fitw x) (hy : Fitw y) {s r c : Int} (h1 : Within x s r c) (h2 : Within y s r c) : mtR2 x y = true := by
  rw [mtW_iff hx hy]
  obtain ⟨a0, a1, a2⟩ := h1
  obtain ⟨b0, b1, b2⟩ := h2
  omega
theorem fitw_of {y : List CV} (hr : inI (c1 y) = true) (hc : inI (c2 y) = true) (h : areaB (c0 y) (c1 y) (c2 y) (c3 y) (c4 y) = true) : Fitw y := by
  have := (areaB_iff hr hc).1 h
  unfold Fitw
  omega
structure RtD (L C : List (List CV)) (m : Nat) : Prop where
  le : m ≤ L.length
  few : m ≤ 400
  row : ∀ j, j < m → (1 ≤ c3 (Sx.rowAt L j) ∧ c3 (Sx.rowAt L j) ≤ 400) ∧ (1 ≤ c4 (Sx.rowAt L j) ∧ c4 (Sx.rowAt L j) ≤ 400) ∧ inI (c1 (Sx.rowAt L j)) = true ∧ inI (c2 (Sx.rowAt L j)) = true
  key : ∀ j, j < m → keyR (Sx.rowAt L j) ∈ tkN C C.length
  lt : ∀ i j, i < j → j < m → ltR (Sx.rowAt L i) (Sx.rowAt L j)
theorem lt_adj {L : List (List CV)} {m : Nat} (h : ∀ k, k + 1 < m → ltR (Sx.rowAt L k) (Sx.rowAt L (k + 1))) (i : Nat) : ∀ d, i + d + 1 < m → ltR (Sx.rowAt L i) (Sx.rowAt L (i + d + 1))
  | 0, hd => h i hd
  | d + 1, hd => ltR_trans (lt_adj h i d (by omega)) (h (i + d + 1) hd)
theorem rtD_of {X Y L : List (List CV)} {m : Nat} (hb : okBk X Y) (h1 : m ≤ L.length) (h2 : m ≤ 400) (h : wrgB L (tkN (clL X Y) (clL X Y).length) m = false) : RtD L (clL X Y) m := by
  refine ⟨h1, h2, (okU_of hb h1 h2 h).2.2, fun j hj => (bad_none (wrg_none h hj)).2.2.1, fun i j hij hj => ?_⟩
  obtain ⟨d, rfl⟩ : ∃ d, j = i + d + 1 := ⟨j - i - 1, by omega⟩
  refine lt_adj (m := m) (fun k hk => ?_) i d hj
  have e := (bad_none (wrg_none h hk)).2.2.2 k rfl
  have g := cmP_ge (s := c0 (Sx.rowAt L k)) (r := c1 (Sx.rowAt L k)) (c := c2 (Sx.rowAt L k)) (s' := c0 (Sx.rowAt L (k + 1))) (r' := c1 (Sx.rowAt L (k + 1))) (c' := c2 (Sx.rowAt L (k + 1)))
  rw [decide_eq_false (by omega)] at g
  show ahdR _ _ = true
  unfold ahdR
  cases hh : ahdB (c0 (Sx.rowAt L k)) (c1 (Sx.rowAt L k)) (c2 (Sx.rowAt L k)) (c0 (Sx.rowAt L (k + 1))) (c1 (Sx.rowAt L (k + 1))) (c2 (Sx.rowAt L (k + 1))) with
  | true => rfl
  | false => rw [hh] at g; cases g
theorem rowAt_take {L : List (List CV)} {k j : Nat} (h : j < k) : Sx.rowAt (L.take k) j = Sx.rowAt L j := by
  have := rwL_take (L := L) h
  rw [rwL_nat, rwL_nat] at this; exact this
section
variable {L C : List (List CV)} {m : Nat}
theorem rt_good (h : RtD L C m) {j : Nat} (hj : j ≤ m) : Good L (tkN C C.length) j (plN L (tkN C C.length) j) := by
  have hlen : (L.take m).length = m := by rw [List.length_take]; have := h.le; omega
  have g := good_all (L := L.take m) (ks0 := tkN C C.length) (by
    rw [List.pairwise_iff_getElem]
    intro i k hi hk hik
    rw [hlen] at hi hk
    have := h.lt i k hik hk
    rw [← rowAt_take (k := m) hi, ← rowAt_take (k := m) hk, rowAt_get (by omega), rowAt_get (by omega)] at this
    exact this) (fun i hi => by rw [hlen] at hi; rw [rowAt_take hi]; exact h.key i hi) j (by omega)
  rw [plN_take L (tkN C C.length) m j hj] at g
  refine ⟨g.old, fun y hy => ?_, g.taken, g.free, g.apart⟩
  obtain ⟨i, hi, e, ha⟩ := g.rows y hy
  have er := rwL_take (L := L) (show i < m by omega)
  refine ⟨i, hi, ?_, ?_⟩
  · rw [e]; simp only [spL1, er]
  · simp only [arL, er] at ha ⊢; exact ha
theorem rt_fits (h : RtD L C m) {i : Nat} (hi : i < m) (ha : arL L (i : Int) = true) : Fitw (Sx.rowAt L i) := by
  have ha : areaB (c0 (rwL L (i : Int))) (c1 (rwL L (i : Int))) (c2 (rwL L (i : Int))) (c3 (rwL L (i : Int))) (c4 (rwL L (i : Int))) = true := ha
  rw [rwL_nat] at ha
  obtain ⟨_, _, h1, h2⟩ := h.row i hi
  exact fitw_of h1 h2 ha
theorem rt_row (h : RtD L C m) {j : Nat} (hj : j ≤ m) {y : List CV} (hy : y ∈ (plN L (tkN C C.length) j).P) : ∃ i, i < j ∧ y = spL1 L (i : Int) ∧ Fitw (Sx.rowAt L i) ∧ areaB (c0 y) (c1 y) (c2 y) (c3 y) (c4 y) = true := by
  obtain ⟨i, hi, e, ha⟩ := (rt_good h hj).rows y hy
  refine ⟨i, hi, e, rt_fits h (by omega) ha, ?_⟩
  subst e
  exact ha
theorem sp_fits {i : Nat} (h : Fitw (Sx.rowAt L i)) : Fitw (spL1 L (i : Int)) := by
  rw [← rwL_nat] at h; exact h
theorem rt_okBl (h : RtD L C m) (hC : C.length ≤ 1000) {j : Nat} (hj : j < m) : okBl C (plN L (tkN C C.length) j).P C.length (plN L (tkN C C.length) j).P.length (c0 (Sx.rowAt L j)) (c1 (Sx.rowAt L j)) (c2 (Sx.rowAt L j)) (c3 (Sx.rowAt L j)) (c4 (Sx.rowAt L j)) := by
  have hn := plN_len L (tkN C C.length) j
  have hf := h.few
  refine ⟨(h.row j hj).2.2, ⟨Nat.le_refl _, hC⟩, ⟨Nat.le_refl _, by omega⟩, fun i hi => ?_⟩
  obtain ⟨i', hi', e, hF, ha⟩ := rt_row h (Nat.le_of_lt hj) (row_mem hi)
  refine ⟨?_, ha⟩
  have := (h.row i' (by omega)).2.2
  rw [← rwL_nat] at this
  rw [e]; exact this
theorem inA_three {x : List CV} {k : List Int} (h : inA x k) : ∃ s r c, k = [s, r, c] := by
  obtain ⟨i, j, _, _, rfl⟩ := h
  exact ⟨_, _, _, rfl⟩
theorem anyN_of {f : Nat → Bool} {n j : Nat} (hj : j < n) (h : f j = true) : anyN f n = true := by
  cases hb : anyN f n with
  | true => rfl
  | false => rw [anyN_none hb j hj] at h; cases h
theorem blk_pl (h : RtD L C m) {j : Nat} (hj : j < m) : blkD C (plN L (tkN C C.length) j).P C.length (plN L (tkN C C.length) j).P.length (c0 (Sx.rowAt L j)) (c1 (Sx.rowAt L j)) (c2 (Sx.rowAt L j)) (c3 (Sx.rowAt L j)) (c4 (Sx.rowAt L j)) = !isPl L (tkN C C.length) j := by
  have hg := rt_good h (Nat.le_of_lt hj)
  have er := rwL_nat L j
  unfold blkD isPl
  have eA : arL L (j : Int) = areaB (c0 (Sx.rowAt L j)) (c1 (Sx.rowAt L j)) (c2 (Sx.rowAt L j)) (c3 (Sx.rowAt L j)) (c4 (Sx.rowAt L j)) := by simp only [arL, er]
  rw [eA]
  cases hA : areaB (c0 (Sx.rowAt L j)) (c1 (Sx.rowAt L j)) (c2 (Sx.rowAt L j)) (c3 (Sx.rowAt L j)) (c4 (Sx.rowAt L j)) with
  | false => rfl
  | true =>
    have hF : Fitw (Sx.rowAt L j) := fitw_of (h.row j hj).2.2.1 (h.row j hj).2.2.2 hA
    rw [bcF (b := !true) rfl]
    show _ = !(true && !hitL L (plN L (tkN C C.length) j).ks (j : Int))
    rw [Bool.true_and, Bool.not_not]
    have eH : hitL L (plN L (tkN C C.length) j).ks (j : Int) = hitA (plN L (tkN C C.length) j).ks (c0 (Sx.rowAt L j)) (c1 (Sx.rowAt L j)) (c2 (Sx.rowAt L j)) (c3 (Sx.rowAt L j)).toNat (c4 (Sx.rowAt L j)).toNat (c0 (Sx.rowAt L j)) (c1 (Sx.rowAt L j)) (c2 (Sx.rowAt L j)) := by unfold hitL; rw [er]
    cases hh : hitL L (plN L (tkN C C.length) j).ks (j : Int) with
    | true =>
      rw [hh] at eH
      obtain ⟨k, k1, k2, k3⟩ := hit_some eH.symm
      obtain ⟨s, r, c, rfl⟩ := inA_three k1
      rcases ks_from j k2 with k2 | ⟨m', hm', hp, k2⟩
      · obtain ⟨i, hi, e⟩ := (mem_tkN _).1 k2
        have : hitD C (c0 (Sx.rowAt L j)) (c1 (Sx.rowAt L j)) (c2 (Sx.rowAt L j)) (c3 (Sx.rowAt L j)) (c4 (Sx.rowAt L j)) i = true := by
          rw [e] at k1 k3
          unfold hitD
          rw [bcT ((hasW_iff hF).2 ((inW_iff hF).1 k1))]
          cases he : eqP (Sx.rowAt C i) (c0 (Sx.rowAt L j)) (c1 (Sx.rowAt L j)) (c2 (Sx.rowAt L j)) with
          | false => rfl
          | true =>
            obtain ⟨e1, e2, e3⟩ := eqP_iff.1 he
            exact absurd (by unfold keyR; rw [e1, e2, e3]) k3
        rw [bcT (anyN_of hi this)]
      · obtain ⟨p1, p2⟩ := plP_at (ks := tkN C C.length) hm' hp
        have ha' : arL L (m' : Int) = true := by unfold isPl at hp; rw [Bool.and_eq_true] at hp; exact hp.1
        have hF' := rt_fits h (show m' < m by omega) ha'
        rw [rwL_nat] at k2
        have : mtD (plN L (tkN C C.length) j).P (c0 (Sx.rowAt L j)) (c1 (Sx.rowAt L j)) (c2 (Sx.rowAt L j)) (c3 (Sx.rowAt L j)) (c4 (Sx.rowAt L j)) (plN L (tkN C C.length) m').P.length = true := by
          unfold mtD
          rw [p2]
          have := within_mtW hF (sp_fits hF') ((inW_iff hF).1 k1) (by
            have := (inW_iff hF').1 k2
            rw [← rwL_nat] at this; exact this)
          exact this
        rw [anyN_of p1 this]
        cases anyN _ C.length <;> rfl
    | false =>
      rw [hh] at eH
      have hno : ∀ k, inA (Sx.rowAt L j) k → k ∈ (plN L (tkN C C.length) j).ks → k = keyR (Sx.rowAt L j) := fun k h1 h2 => hit_none eH.symm h1 h2
      have n1 : anyN (hitD C (c0 (Sx.rowAt L j)) (c1 (Sx.rowAt L j)) (c2 (Sx.rowAt L j)) (c3 (Sx.rowAt L j)) (c4 (Sx.rowAt L j))) C.length = false := by
        cases hb : anyN (hitD C (c0 (Sx.rowAt L j)) (c1 (Sx.rowAt L j)) (c2 (Sx.rowAt L j)) (c3 (Sx.rowAt L j)) (c4 (Sx.rowAt L j))) C.length with
        | false => rfl
        | true =>
          obtain ⟨i, hi, e⟩ := anyN_true hb
          unfold hitD at e
          cases hx : hasB (c0 (Sx.rowAt L j)) (c1 (Sx.rowAt L j)) (c2 (Sx.rowAt L j)) (c3 (Sx.rowAt L j)) (c4 (Sx.rowAt L j)) (c0 (Sx.rowAt C i)) (c1 (Sx.rowAt C i)) (c2 (Sx.rowAt C i)) with
          | false => rw [bcF hx] at e; cases e
          | true =>
            rw [bcT hx] at e
            have k := hno (keyR (Sx.rowAt C i)) ((inW_iff hF).2 ((hasW_iff hF).1 hx)) (hg.old _ ((mem_tkN _).2 ⟨i, hi, rfl⟩))
            simp only [keyR, List.cons.injEq, and_true] at k
            rw [eqP_iff.2 k] at e; cases e
      have n2 : anyN (mtD (plN L (tkN C C.length) j).P (c0 (Sx.rowAt L j)) (c1 (Sx.rowAt L j)) (c2 (Sx.rowAt L j)) (c3 (Sx.rowAt L j)) (c4 (Sx.rowAt L j))) (plN L (tkN C C.length) j).P.length = false := by
        cases hb : anyN (mtD (plN L (tkN C C.length) j).P (c0 (Sx.rowAt L j)) (c1 (Sx.rowAt L j)) (c2 (Sx.rowAt L j)) (c3 (Sx.rowAt L j)) (c4 (Sx.rowAt L j))) (plN L (tkN C C.length) j).P.length with
        | false => rfl
        | true =>
          obtain ⟨i, hi, e⟩ := anyN_true hb
          have hy := row_mem hi
          obtain ⟨i', hi', ey, hF', _⟩ := rt_row h (Nat.le_of_lt hj) hy
          unfold mtD at e
          rw [ey] at e hy
          obtain ⟨s, r, c, w1, w2⟩ := mtW_within hF (sp_fits hF') e
          have k1 := (inW_iff hF).2 w1
          have k2 := (inW_iff (sp_fits hF')).2 w2
          have k := hno _ k1 (hg.taken _ hy _ k2)
          have hk0 : [s, r, c] ∈ tkN C C.length := by rw [k]; exact h.key j hj
          have k' := hg.free _ hy _ k2 hk0
          rw [k] at k'
          have k' : keyR (Sx.rowAt L j) = keyR (rwL L (i' : Int)) := k'
          rw [rwL_nat] at k'
          have lt := ltR_iff.1 (h.lt i' j hi' hj)
          simp only [keyR, List.cons.injEq, and_true] at k'
          omega
      rw [n1, n2]; rfl
end
end Go.Proofs.YtphhepnldndbhaaGreatDoor.Dp
namespace Go.Proofs.YtphhepnldndbhaaGreatDoor.Dp
open Go Sx Go.Proofs.YtphhepnldndbhaaGreatDoor
section
variable {pre : List (Option PObj)} {K m n : Nat} {C : List (List CV)} {i : Int}
theorem sPof_P (P B : List (List CV)) (r : List CV) : sPof pre K m n C i (P ++ [r]) B = match B with
  | [] => sPd C pre K m n (.vec (K + 1) (P.length + 1)) .qzz i [some (vS (P ++ [r]))]
  | B => sPd C pre K m n (.vec (K + 1) (P.length + 1)) (.vec (K + 2) B.length) i [some (vS (P ++ [r])), some (vA B)] := by
  have : (P ++ [r]).length = P.length + 1 := by simp
  rw [← this]
  cases P <;> cases B <;> rfl
theorem sPof_B (P B : List (List CV)) (r : List CV) : sPof pre K m n C i P (B ++ [r]) = match P with
  | [] => sPd C pre K m n .qzz (.vec (K + 1) (B.length + 1)) i [some (vA (B ++ [r]))]
  | P => sPd C pre K m n (.vec (K + 1) P.length) (.vec (K + 2) (B.length + 1)) i [some (vS P), some (vA (B ++ [r]))] := by
  have : (B ++ [r]).length = B.length + 1 := by simp
  rw [← this]
  cases P <;> cases B <;> rfl
end
theorem outP_ok {pre : List (Option PObj)} {K K' : Nat} {P B : List (List CV)} {s : qzw} (h : Tri Tryz.prog (.loop loopP) s.toA (.exit 0) (sPofX pre K P B).toA K') : LAnsOK Tryz.prog loopP K' s (outP pre K P B P.length B.length true (isNil P) (isNil B)) := by
  refine ⟨fun _ => ?_, fun _ => trivial⟩
  cases P with
  | nil => cases B with
    | nil => exact ⟨fun _ => ⟨fun _ => h, fun e => by cases e⟩, fun e => by cases e⟩
    | cons y B => exact ⟨fun _ => ⟨(fun e => by cases e), fun _ => h⟩, fun e => by cases e⟩
  | cons x P => cases B with
    | nil => exact ⟨(fun e => by cases e), fun _ => ⟨fun _ => h, fun e => by cases e⟩⟩
    | cons y B => exact ⟨(fun e => by cases e), fun _ => ⟨(fun e => by cases e), fun _ => h⟩⟩
section
variable {X Y L C : List (List CV)} {p q m : Nat}
open Classical in
theorem ckR3_ok (h : RtD L C m) (hC : C.length ≤ 1000) {j : Nat} (hj : j < m) : ∀ b ∈ [ixN (j : Int) m, ckF (j : Int) L, ckBl C (plN L (tkN C C.length) j).P C.length (plN L (tkN C C.length) j).P.length L (j : Int)], b = true := by
  intro b hb
  simp only [List.mem_cons, List.not_mem_nil, or_false] at hb
  rcases hb with rfl | rfl | rfl
  · exact ixN_nat hj
  · exact ckF_nat (Nat.lt_of_lt_of_le hj h.le)
  · unfold ckBl; rw [Int.toNat_natCast]; exact decide_eq_true (rt_okBl h hC hj)
theorem ckR2_ok (h : RtD L C m) {j : Nat} (hj : j < m) : ∀ b ∈ [ixN (j : Int) m, ckF (j : Int) L], b = true := all2 (ixN_nat hj) (ckF_nat (Nat.lt_of_lt_of_le hj h.le))
theorem ckR2b_ok (h : RtD L C m) {j : Nat} (hj : j < m) {B : List (List CV)} (hB : B.length ≤ 400) : ∀ b ∈ [ixN (j : Int) m, ckF (j : Int) L, ckBv B], b = true := by
  intro b hb
  simp only [List.mem_cons, List.not_mem_nil, or_false] at hb
  rcases hb with rfl | rfl | rfl
  · exact ixN_nat hj
  · exact ckF_nat (Nat.lt_of_lt_of_le hj h.le)
  · exact ckBv_ok (by omega)
theorem ckR2p_ok (h : RtD L C m) {j : Nat} (hj : j < m) {P : List (List CV)} (hP : P.length ≤ 400) : ∀ b ∈ [ixN (j : Int) m, ckF (j : Int) L, ckPv P P.length], b = true := by
  intro b hb
  simp only [List.mem_cons, List.not_mem_nil, or_false] at hb
  rcases hb with rfl | rfl | rfl
  · exact ixN_nat hj
  · exact ckF_nat (Nat.lt_of_lt_of_le hj h.le)
  · exact ckPv_ok (by omega)
open Classical in
theorem blI_pl (h : RtD L C m) {j : Nat} (hj : j < m) : blI C (plN L (tkN C C.length) j).P C.length (plN L (tkN C C.length) j).P.length L (j : Int) = !isPl L (tkN C C.length) j := by
  unfold blI; rw [Int.toNat_natCast]; exact blk_pl h hj
open Classical in
theorem stepD_0 (h : RtD L C m) (hC : C.length ≤ 1000) {j : Nat} (hj : j < m) : Tri Tryz.prog loopP (sPof (pr0 L) 2 m C.length C (j : Int) (plN L (tkN C C.length) j).P (plN L (tkN C C.length) j).B).toA .normal (sPof (pr0 L) 2 m C.length C ((j + 1 : Nat) : Int) (plN L (tkN C C.length) (j + 1)).P (plN L (tkN C C.length) (j + 1)).B).toA 2 := by
  have hn := plN_len L (tkN C C.length) j
  have hl := h.few
  have hlt : decide ((j : Int) < (m : Int)) = true := decide_eq_true (by omega)
  have c3 := ckR3_ok h hC hj
  have hb := blI_pl h hj
  have hst := plN_step L (tkN C C.length) j
  rw [← up1_nat (show j < 1099511627776 by omega)]
  have c2b := ckR2b_ok h hj (B := (plN L (tkN C C.length) j).B) (by omega)
  have c2p := ckR2p_ok h hj (P := (plN L (tkN C C.length) j).P) (by omega)
  have c2 := ckR2_ok h hj
  generalize plN L (tkN C C.length) (j + 1) = S' at *
  generalize plN L (tkN C C.length) j = S at *
  obtain ⟨P, B, ks⟩ := S
  obtain ⟨P', B', ks'⟩ := S'
  simp only at hn hst hb c3 c2b c2p ⊢
  rcases hst with ⟨hp, hP, hB, _⟩ | ⟨hp, hP, hB, _⟩
  · rw [hp] at hb
    rw [hP, hB, sPof_P]
    cases P with
    | nil =>
      simp only [List.length_nil] at c3 hb
      cases B with
      | nil => exact qzx (qxw C) ((r000 (L := L) (C := C) (m := m) (n := C.length) (i := (j : Int))).trans (by rw [bcT hlt, qzy c3, bcF hb, qzy c2]; try rfl))
      | cons y B => exact qzx (qxw C) ((r001 (L := L) (C := C) (m := m) (n := C.length) (i := (j : Int)) (B := y :: B)).trans (by rw [bcT hlt, qzy c3, bcF hb, qzy c2]; try rfl))
    | cons x P => cases B with
      | nil => exact qzx (qxw C) ((r010 (L := L) (C := C) (m := m) (n := C.length) (i := (j : Int)) (P := x :: P) (a := (x :: P).length)).trans (by rw [bcT hlt, qzy c3, bcF hb, qzy c2p]; try rfl))
      | cons y B => exact qzx (qxw C) ((r011 (L := L) (C := C) (m := m) (n := C.length) (i := (j : Int)) (P := x :: P) (a := (x :: P).length) (B := y :: B)).trans (by rw [bcT hlt, qzy c3, bcF hb, qzy c2p]; try rfl))
  · rw [hp] at hb
    rw [hP, hB, sPof_B]
    cases P with
    | nil =>
      simp only [List.length_nil] at c3 hb
      cases B with
      | nil => exact qzx (qxw C) ((r000 (L := L) (C := C) (m := m) (n := C.length) (i := (j : Int))).trans (by rw [bcT hlt, qzy c3, bcT hb, qzy c2]; try rfl))
      | cons y B => exact qzx (qxw C) ((r001 (L := L) (C := C) (m := m) (n := C.length) (i := (j : Int)) (B := y :: B)).trans (by rw [bcT hlt, qzy c3, bcT hb, qzy c2b]; try rfl))
    | cons x P => cases B with
      | nil => exact qzx (qxw C) ((r010 (L := L) (C := C) (m := m) (n := C.length) (i := (j : Int)) (P := x :: P) (a := (x :: P).length)).trans (by rw [bcT hlt, qzy c3, bcT hb, qzy c2]; try rfl))
      | cons y B => exact qzx (qxw C) ((r011 (L := L) (C := C) (m := m) (n := C.length) (i := (j : Int)) (P := x :: P) (a := (x :: P).length) (B := y :: B)).trans (by rw [bcT hlt, qzy c3, bcT hb, qzy c2b]; try rfl))
open Classical in
theorem lastD_0 (P B : List (List CV)) : Tri Tryz.prog loopP (sPof (pr0 L) 2 m C.length C (m : Int) P B).toA (.exit 0) (sPofX (pr0 L) 2 P B).toA 2 := by
  have hlt : decide ((m : Int) < (m : Int)) = false := decide_eq_false (by omega)
  cases P with
  | nil => cases B with
    | nil => exact qzx (qxw C) ((r000 (L := L) (C := C) (m := m) (n := C.length) (i := (m : Int))).trans (by rw [bcF hlt]; try rfl))
    | cons y B => exact qzx (qxw C) ((r001 (L := L) (C := C) (m := m) (n := C.length) (i := (m : Int)) (B := y :: B)).trans (by rw [bcF hlt]; try rfl))
  | cons x P => cases B with
    | nil => exact qzx (qxw C) ((r010 (L := L) (C := C) (m := m) (n := C.length) (i := (m : Int)) (P := x :: P) (a := (x :: P).length)).trans (by rw [bcF hlt]; try rfl))
    | cons y B => exact qzx (qxw C) ((r011 (L := L) (C := C) (m := m) (n := C.length) (i := (m : Int)) (P := x :: P) (a := (x :: P).length) (B := y :: B)).trans (by rw [bcF hlt]; try rfl))
theorem loopD_0 (h : RtD L C m) (hC : C.length ≤ 1000) : Tri Tryz.prog (.loop loopP) (sPd C (pr0 L) 2 m C.length .qzz .qzz 0 []).toA (.exit 0) (sPofX (pr0 L) 2 (plN L (tkN C C.length) m).P (plN L (tkN C C.length) m).B).toA 2 :=
  tri_up (body := loopP) (fun j => (sPof (pr0 L) 2 m C.length C (j : Int) (plN L (tkN C C.length) j).P (plN L (tkN C C.length) j).B).toA) (fun e => by cases e) m (fun j hj => stepD_0 h hC hj) (lastD_0 _ _) 0 (Nat.zero_le _)
open Classical in
theorem stepD_x (h : RtD L C m) (hC : C.length ≤ 1000) {j : Nat} (hj : j < m) : Tri Tryz.prog loopP (sPof (prX X L p) 3 m C.length C (j : Int) (plN L (tkN C C.length) j).P (plN L (tkN C C.length) j).B).toA .normal (sPof (prX X L p) 3 m C.length C ((j + 1 : Nat) : Int) (plN L (tkN C C.length) (j + 1)).P (plN L (tkN C C.length) (j + 1)).B).toA 3 := by
  have hn := plN_len L (tkN C C.length) j
  have hl := h.few
  have hlt : decide ((j : Int) < (m : Int)) = true := decide_eq_true (by omega)
  have c3 := ckR3_ok h hC hj
  have hb := blI_pl h hj
  have hst := plN_step L (tkN C C.length) j
  rw [← up1_nat (show j < 1099511627776 by omega)]
  have c2b := ckR2b_ok h hj (B := (plN L (tkN C C.length) j).B) (by omega)
  have c2p := ckR2p_ok h hj (P := (plN L (tkN C C.length) j).P) (by omega)
  have c2 := ckR2_ok h hj
  generalize plN L (tkN C C.length) (j + 1) = S' at *
  generalize plN L (tkN C C.length) j = S at *
  obtain ⟨P, B, ks⟩ := S
  obtain ⟨P', B', ks'⟩ := S'
  simp only at hn hst hb c3 c2b c2p ⊢
  rcases hst with ⟨hp, hP, hB, _⟩ | ⟨hp, hP, hB, _⟩
  · rw [hp] at hb
    rw [hP, hB, sPof_P]
    cases P with
    | nil =>
      simp only [List.length_nil] at c3 hb
      cases B with
      | nil => exact qzx (qxw C) ((rx00 (X := X) (p := p) (L := L) (C := C) (m := m) (n := C.length) (i := (j : Int))).trans (by rw [bcT hlt, qzy c3, bcF hb, qzy c2]; try rfl))
      | cons y B => exact qzx (qxw C) ((rx01 (X := X) (p := p) (L := L) (C := C) (m := m) (n := C.length) (i := (j : Int)) (B := y :: B)).trans (by rw [bcT hlt, qzy c3, bcF hb, qzy c2]; try rfl))
    | cons x P => cases B with
      | nil => exact qzx (qxw C) ((rx10 (X := X) (p := p) (L := L) (C := C) (m := m) (n := C.length) (i := (j : Int)) (P := x :: P) (a := (x :: P).length)).trans (by rw [bcT hlt, qzy c3, bcF hb, qzy c2p]; try rfl))
      | cons y B => exact qzx (qxw C) ((rx11 (X := X) (p := p) (L := L) (C := C) (m := m) (n := C.length) (i := (j : Int)) (P := x :: P) (a := (x :: P).length) (B := y :: B)).trans (by rw [bcT hlt, qzy c3, bcF hb, qzy c2p]; try rfl))
  · rw [hp] at hb
    rw [hP, hB, sPof_B]
    cases P with
    | nil =>
      simp only [List.length_nil] at c3 hb
      cases B with
      | nil => exact qzx (qxw C) ((rx00 (X := X) (p := p) (L := L) (C := C) (m := m) (n := C.length) (i := (j : Int))).trans (by rw [bcT hlt, qzy c3, bcT hb, qzy c2]; try rfl))
      | cons y B => exact qzx (qxw C) ((rx01 (X := X) (p := p) (L := L) (C := C) (m := m) (n := C.length) (i := (j : Int)) (B := y :: B)).trans (by rw [bcT hlt, qzy c3, bcT hb, qzy c2b]; try rfl))
    | cons x P => cases B with
      | nil => exact qzx (qxw C) ((rx10 (X := X) (p := p) (L := L) (C := C) (m := m) (n := C.length) (i := (j : Int)) (P := x :: P) (a := (x :: P).length)).trans (by rw [bcT hlt, qzy c3, bcT hb, qzy c2]; try rfl))
      | cons y B => exact qzx (qxw C) ((rx11 (X := X) (p := p) (L := L) (C := C) (m := m) (n := C.length) (i := (j : Int)) (P := x :: P) (a := (x :: P).length) (B := y :: B)).trans (by rw [bcT hlt, qzy c3, bcT hb, qzy c2b]; try rfl))
open Classical in
theorem lastD_x (P B : List (List CV)) : Tri Tryz.prog loopP (sPof (prX X L p) 3 m C.length C (m : Int) P B).toA (.exit 0) (sPofX (prX X L p) 3 P B).toA 3 := by
  have hlt : decide ((m : Int) < (m : Int)) = false := decide_eq_false (by omega)
  cases P with
  | nil => cases B with
    | nil => exact qzx (qxw C) ((rx00 (X := X) (p := p) (L := L) (C := C) (m := m) (n := C.length) (i := (m : Int))).trans (by rw [bcF hlt]; try rfl))
    | cons y B => exact qzx (qxw C) ((rx01 (X := X) (p := p) (L := L) (C := C) (m := m) (n := C.length) (i := (m : Int)) (B := y :: B)).trans (by rw [bcF hlt]; try rfl))
  | cons x P => cases B with
    | nil => exact qzx (qxw C) ((rx10 (X := X) (p := p) (L := L) (C := C) (m := m) (n := C.length) (i := (m : Int)) (P := x :: P) (a := (x :: P).length)).trans (by rw [bcF hlt]; try rfl))
    | cons y B => exact qzx (qxw C) ((rx11 (X := X) (p := p) (L := L) (C := C) (m := m) (n := C.length) (i := (m : Int)) (P := x :: P) (a := (x :: P).length) (B := y :: B)).trans (by rw [bcF hlt]; try rfl))
theorem loopD_x (h : RtD L C m) (hC : C.length ≤ 1000) : Tri Tryz.prog (.loop loopP) (sPd C (prX X L p) 3 m C.length .qzz .qzz 0 []).toA (.exit 0) (sPofX (prX X L p) 3 (plN L (tkN C C.length) m).P (plN L (tkN C C.length) m).B).toA 3 :=
  tri_up (body := loopP) (fun j => (sPof (prX X L p) 3 m C.length C (j : Int) (plN L (tkN C C.length) j).P (plN L (tkN C C.length) j).B).toA) (fun e => by cases e) m (fun j hj => stepD_x h hC hj) (lastD_x _ _) 0 (Nat.zero_le _)
open Classical in
theorem stepD_y (h : RtD L C m) (hC : C.length ≤ 1000) {j : Nat} (hj : j < m) : Tri Tryz.prog loopP (sPof (prY Y L q) 3 m C.length C (j : Int) (plN L (tkN C C.length) j).P (plN L (tkN C C.length) j).B).toA .normal (sPof (prY Y L q) 3 m C.length C ((j + 1 : Nat) : Int) (plN L (tkN C C.length) (j + 1)).P (plN L (tkN C C.length) (j + 1)).B).toA 3 := by
  have hn := plN_len L (tkN C C.length) j
  have hl := h.few
  have hlt : decide ((j : Int) < (m : Int)) = true := decide_eq_true (by omega)
  have c3 := ckR3_ok h hC hj
  have hb := blI_pl h hj
  have hst := plN_step L (tkN C C.length) j
  rw [← up1_nat (show j < 1099511627776 by omega)]
  have c2b := ckR2b_ok h hj (B := (plN L (tkN C C.length) j).B) (by omega)
  have c2p := ckR2p_ok h hj (P := (plN L (tkN C C.length) j).P) (by omega)
  have c2 := ckR2_ok h hj
  generalize plN L (tkN C C.length) (j + 1) = S' at *
  generalize plN L (tkN C C.length) j = S at *
  obtain ⟨P, B, ks⟩ := S
  obtain ⟨P', B', ks'⟩ := S'
  simp only at hn hst hb c3 c2b c2p ⊢
  rcases hst with ⟨hp, hP, hB, _⟩ | ⟨hp, hP, hB, _⟩
  · rw [hp] at hb
    rw [hP, hB, sPof_P]
    cases P with
    | nil =>
      simp only [List.length_nil] at c3 hb
      cases B with
      | nil => exact qzx (qxw C) ((ry00 (Y := Y) (q := q) (L := L) (C := C) (m := m) (n := C.length) (i := (j : Int))).trans (by rw [bcT hlt, qzy c3, bcF hb, qzy c2]; try rfl))
      | cons y B => exact qzx (qxw C) ((ry01 (Y := Y) (q := q) (L := L) (C := C) (m := m) (n := C.length) (i := (j : Int)) (B := y :: B)).trans (by rw [bcT hlt, qzy c3, bcF hb, qzy c2]; try rfl))
    | cons x P => cases B with
      | nil => exact qzx (qxw C) ((ry10 (Y := Y) (q := q) (L := L) (C := C) (m := m) (n := C.length) (i := (j : Int)) (P := x :: P) (a := (x :: P).length)).trans (by rw [bcT hlt, qzy c3, bcF hb, qzy c2p]; try rfl))
      | cons y B => exact qzx (qxw C) ((ry11 (Y := Y) (q := q) (L := L) (C := C) (m := m) (n := C.length) (i := (j : Int)) (P := x :: P) (a := (x :: P).length) (B := y :: B)).trans (by rw [bcT hlt, qzy c3, bcF hb, qzy c2p]; try rfl))
  · rw [hp] at hb
    rw [hP, hB, sPof_B]
    cases P with
    | nil =>
      simp only [List.length_nil] at c3 hb
      cases B with
      | nil => exact qzx (qxw C) ((ry00 (Y := Y) (q := q) (L := L) (C := C) (m := m) (n := C.length) (i := (j : Int))).trans (by rw [bcT hlt, qzy c3, bcT hb, qzy c2]; try rfl))
      | cons y B => exact qzx (qxw C) ((ry01 (Y := Y) (q := q) (L := L) (C := C) (m := m) (n := C.length) (i := (j : Int)) (B := y :: B)).trans (by rw [bcT hlt, qzy c3, bcT hb, qzy c2b]; try rfl))
    | cons x P => cases B with
      | nil => exact qzx (qxw C) ((ry10 (Y := Y) (q := q) (L := L) (C := C) (m := m) (n := C.length) (i := (j : Int)) (P := x :: P) (a := (x :: P).length)).trans (by rw [bcT hlt, qzy c3, bcT hb, qzy c2]; try rfl))
      | cons y B => exact qzx (qxw C) ((ry11 (Y := Y) (q := q) (L := L) (C := C) (m := m) (n := C.length) (i := (j : Int)) (P := x :: P) (a := (x :: P).length) (B := y :: B)).trans (by rw [bcT hlt, qzy c3, bcT hb, qzy c2b]; try rfl))
open Classical in
theorem lastD_y (P B : List (List CV)) : Tri Tryz.prog loopP (sPof (prY Y L q) 3 m C.length C (m : Int) P B).toA (.exit 0) (sPofX (prY Y L q) 3 P B).toA 3 := by
  have hlt : decide ((m : Int) < (m : Int)) = false := decide_eq_false (by omega)
  cases P with
  | nil => cases B with
    | nil => exact qzx (qxw C) ((ry00 (Y := Y) (q := q) (L := L) (C := C) (m := m) (n := C.length) (i := (m : Int))).trans (by rw [bcF hlt]; try rfl))
    | cons y B => exact qzx (qxw C) ((ry01 (Y := Y) (q := q) (L := L) (C := C) (m := m) (n := C.length) (i := (m : Int)) (B := y :: B)).trans (by rw [bcF hlt]; try rfl))
  | cons x P => cases B with
    | nil => exact qzx (qxw C) ((ry10 (Y := Y) (q := q) (L := L) (C := C) (m := m) (n := C.length) (i := (m : Int)) (P := x :: P) (a := (x :: P).length)).trans (by rw [bcF hlt]; try rfl))
    | cons y B => exact qzx (qxw C) ((ry11 (Y := Y) (q := q) (L := L) (C := C) (m := m) (n := C.length) (i := (m : Int)) (P := x :: P) (a := (x :: P).length) (B := y :: B)).trans (by rw [bcF hlt]; try rfl))
theorem loopD_y (h : RtD L C m) (hC : C.length ≤ 1000) : Tri Tryz.prog (.loop loopP) (sPd C (prY Y L q) 3 m C.length .qzz .qzz 0 []).toA (.exit 0) (sPofX (prY Y L q) 3 (plN L (tkN C C.length) m).P (plN L (tkN C C.length) m).B).toA 3 :=
  tri_up (body := loopP) (fun j => (sPof (prY Y L q) 3 m C.length C (j : Int) (plN L (tkN C C.length) j).P (plN L (tkN C C.length) j).B).toA) (fun e => by cases e) m (fun j hj => stepD_y h hC hj) (lastD_y _ _) 0 (Nat.zero_le _)
open Classical in
theorem stepD_b (h : RtD L C m) (hC : C.length ≤ 1000) {j : Nat} (hj : j < m) : Tri Tryz.prog loopP (sPof (prB X Y L p q) 4 m C.length C (j : Int) (plN L (tkN C C.length) j).P (plN L (tkN C C.length) j).B).toA .normal (sPof (prB X Y L p q) 4 m C.length C ((j + 1 : Nat) : Int) (plN L (tkN C C.length) (j + 1)).P (plN L (tkN C C.length) (j + 1)).B).toA 4 := by
  have hn := plN_len L (tkN C C.length) j
  have hl := h.few
  have hlt : decide ((j : Int) < (m : Int)) = true := decide_eq_true (by omega)
  have c3 := ckR3_ok h hC hj
  have hb := blI_pl h hj
  have hst := plN_step L (tkN C C.length) j
  rw [← up1_nat (show j < 1099511627776 by omega)]
  have c2b := ckR2b_ok h hj (B := (plN L (tkN C C.length) j).B) (by omega)
  have c2p := ckR2p_ok h hj (P := (plN L (tkN C C.length) j).P) (by omega)
  have c2 := ckR2_ok h hj
  generalize plN L (tkN C C.length) (j + 1) = S' at *
  generalize plN L (tkN C C.length) j = S at *
  obtain ⟨P, B, ks⟩ := S
  obtain ⟨P', B', ks'⟩ := S'
  simp only at hn hst hb c3 c2b c2p ⊢
  rcases hst with ⟨hp, hP, hB, _⟩ | ⟨hp, hP, hB, _⟩
  · rw [hp] at hb
    rw [hP, hB, sPof_P]
    cases P with
    | nil =>
      simp only [List.length_nil] at c3 hb
      cases B with
      | nil => exact qzx (qxw C) ((rb00 (X := X) (Y := Y) (p := p) (q := q) (L := L) (C := C) (m := m) (n := C.length) (i := (j : Int))).trans (by rw [bcT hlt, qzy c3, bcF hb, qzy c2]; try rfl))
      | cons y B => exact qzx (qxw C) ((rb01 (X := X) (Y := Y) (p := p) (q := q) (L := L) (C := C) (m := m) (n := C.length) (i := (j : Int)) (B := y :: B)).trans (by rw [bcT hlt, qzy c3, bcF hb, qzy c2]; try rfl))
    | cons x P => cases B with
      | nil => exact qzx (qxw C) ((rb10 (X := X) (Y := Y) (p := p) (q := q) (L := L) (C := C) (m := m) (n := C.length) (i := (j : Int)) (P := x :: P) (a := (x :: P).length)).trans (by rw [bcT hlt, qzy c3, bcF hb, qzy c2p]; try rfl))
      | cons y B => exact qzx (qxw C) ((rb11 (X := X) (Y := Y) (p := p) (q := q) (L := L) (C := C) (m := m) (n := C.length) (i := (j : Int)) (P := x :: P) (a := (x :: P).length) (B := y :: B)).trans (by rw [bcT hlt, qzy c3, bcF hb, qzy c2p]; try rfl))
  · rw [hp] at hb
    rw [hP, hB, sPof_B]
    cases P with
    | nil =>
      simp only [List.length_nil] at c3 hb
      cases B with
      | nil => exact qzx (qxw C) ((rb00 (X := X) (Y := Y) (p := p) (q := q) (L := L) (C := C) (m := m) (n := C.length) (i := (j : Int))).trans (by rw [bcT hlt, qzy c3, bcT hb, qzy c2]; try rfl))
      | cons y B => exact qzx (qxw C) ((rb01 (X := X) (Y := Y) (p := p) (q := q) (L := L) (C := C) (m := m) (n := C.length) (i := (j : Int)) (B := y :: B)).trans (by rw [bcT hlt, qzy c3, bcT hb, qzy c2b]; try rfl))
    | cons x P => cases B with
      | nil => exact qzx (qxw C) ((rb10 (X := X) (Y := Y) (p := p) (q := q) (L := L) (C := C) (m := m) (n := C.length) (i := (j : Int)) (P := x :: P) (a := (x :: P).length)).trans (by rw [bcT hlt, qzy c3, bcT hb, qzy c2]; try rfl))
      | cons y B => exact qzx (qxw C) ((rb11 (X := X) (Y := Y) (p := p) (q := q) (L := L) (C := C) (m := m) (n := C.length) (i := (j : Int)) (P := x :: P) (a := (x :: P).length) (B := y :: B)).trans (by rw [bcT hlt, qzy c3, bcT hb, qzy c2b]; try rfl))
open Classical in
theorem lastD_b (P B : List (List CV)) : Tri Tryz.prog loopP (sPof (prB X Y L p q) 4 m C.length C (m : Int) P B).toA (.exit 0) (sPofX (prB X Y L p q) 4 P B).toA 4 := by
  have hlt : decide ((m : Int) < (m : Int)) = false := decide_eq_false (by omega)
  cases P with
  | nil => cases B with
    | nil => exact qzx (qxw C) ((rb00 (X := X) (Y := Y) (p := p) (q := q) (L := L) (C := C) (m := m) (n := C.length) (i := (m : Int))).trans (by rw [bcF hlt]; try rfl))
    | cons y B => exact qzx (qxw C) ((rb01 (X := X) (Y := Y) (p := p) (q := q) (L := L) (C := C) (m := m) (n := C.length) (i := (m : Int)) (B := y :: B)).trans (by rw [bcF hlt]; try rfl))
  | cons x P => cases B with
    | nil => exact qzx (qxw C) ((rb10 (X := X) (Y := Y) (p := p) (q := q) (L := L) (C := C) (m := m) (n := C.length) (i := (m : Int)) (P := x :: P) (a := (x :: P).length)).trans (by rw [bcF hlt]; try rfl))
    | cons y B => exact qzx (qxw C) ((rb11 (X := X) (Y := Y) (p := p) (q := q) (L := L) (C := C) (m := m) (n := C.length) (i := (m : Int)) (P := x :: P) (a := (x :: P).length) (B := y :: B)).trans (by rw [bcF hlt]; try rfl))
theorem loopD_b (h : RtD L C m) (hC : C.length ≤ 1000) : Tri Tryz.prog (.loop loopP) (sPd C (prB X Y L p q) 4 m C.length .qzz .qzz 0 []).toA (.exit 0) (sPofX (prB X Y L p q) 4 (plN L (tkN C C.length) m).P (plN L (tkN C C.length) m).B).toA 4 :=
  tri_up (body := loopP) (fun j => (sPof (prB X Y L p q) 4 m C.length C (j : Int) (plN L (tkN C C.length) j).P (plN L (tkN C C.length) j).B).toA) (fun e => by cases e) m (fun j hj => stepD_b h hC hj) (lastD_b _ _) 0 (Nat.zero_le _)
end
theorem pd_body : Tryz.f15.body = some bPd := by kernel_rfl
theorem pd_loops : qyu (restC 2 bPd) = [loopP] := by kernel_rfl
theorem pd_head : headReg loopP = some 10 := by kernel_rfl
theorem pd_loopsOK {lv : Lv} {K : Nat} (h : ∀ e, lv.ent 10 = some e → ∀ t, LAnsOK Tryz.prog loopP K t (e K t)) : LoopsOK Tryz.prog lv K (restC 2 bPd) := by
  refine loops_at [(loopP, 10)] pd_loops (fun p hp => ?_) fun p hp e he t => ?_
  · obtain rfl := List.mem_singleton.1 hp; exact pd_head
  · obtain rfl := List.mem_singleton.1 hp; exact h e he t
open Classical in
theorem pdm_0 {L : List (List CV)} {m : Nat} (h : okBk [] []) (h1 : m ≤ L.length) (h2 : m ≤ 400) (hs : wrgB L (tkN (clL [] []) (clL [] []).length) m = false) : Meets Tryz.prog fPd [bkW, .dsl 1 m] ([oSh .qzz .qzz, fSp L].map PObj.toA) (plV (plR 2 (plP (clL [] []) L m)) (clR (2 + (plO (plP (clL [] []) L m)).length) (plB (clL [] []) L m))) (([oSh .qzz .qzz, fSp L] ++ plO (plP (clL [] []) L m) ++ clO (plB (clL [] []) L m)).map PObj.toA) := by
  have hC := clL_le h
  have hr := rtD_of h h1 h2 hs
  have lo := loopD_0 hr hC
  have hck : ckCeD (clL [] []) [oSh .qzz .qzz] = true := decide_eq_true (cellsD_meets h)
  have e1 : (plN L (tkN (clL [] []) (clL [] []).length) m).P = plP (clL [] []) L m := rfl
  have e2 : (plN L (tkN (clL [] []) (clL [] []).length) m).B = plB (clL [] []) L m := rfl
  rw [e1, e2] at lo
  have hw := wrgD_eq (L := L) (C := (clL [] [])) (n := (clL [] []).length) (m := m)
  rw [hs] at hw
  generalize plP (clL [] []) L m = P at *
  generalize plB (clL [] []) L m = B at *
  generalize (clL [] []) = C at *
  have hL : LoopsOK Tryz.prog (lvPd (pr0 L) 2 m C.length C P B P.length B.length true (isNil P) (isNil B)) 2 (restC 2 bPd) := pd_loopsOK fun e he t => by cases he; exact eAt_ok (outP_ok lo) 2 t
  have hrest : GoesTo Tryz.prog Tryz.f15 [oSh .qzz .qzz, fSp L] pure2 (restC 2 bPd) (sP7 C (pr0 L) 2 m C.length) (plV (plR 2 P) (clR (2 + (plO P).length) B), [oSh .qzz .qzz, fSp L] ++ plO P ++ clO B) := by
    refine goes_code (pre := [oSh .qzz .qzz, fSp L]) (qzv (qxw C) host qyz 20) hL ((rest_0 (L := L) (C := C) (P := P) (B := B) (m := m) (n := C.length) (a := P.length) (b := B.length) (o := true) (bP := isNil P) (bB := isNil B)).trans ?_)
    rw [qzy (all1 (decide_eq_true ⟨⟨h1, by omega⟩, Nat.le_refl _, hC⟩)), bcF hw, qzy (all2 (qzt _) rfl)]
    cases P <;> cases B <;> rfl
  obtain ⟨res, post, k1, k2⟩ := goes_meets (R := AV × List PObj) (NF := 64) (args := [bkW, .dsl 1 m]) (pre := [oSh .qzz .qzz, fSp L]) (k := pure2) host Tryz.func15 pd_body
    (goes_cutV (pre := [oSh .qzz .qzz, fSp L]) (qzv (qxw C) host qyz 20) qyt ((hd_0 (L := L) (C := C) (m := m)).trans (show _ = some ((Ex.normal : Ex), sP7 C (pr0 L) 2 m C.length) by rw [qzy (all1 hck)]; cases C <;> rfl)) rfl hrest)
  cases k2
  exact k1
open Classical in
theorem pde_0 {L : List (List CV)} {m : Nat} (h : okBk [] []) (h1 : m ≤ L.length) (h2 : m ≤ 400) (hs : wrgB L (tkN (clL [] []) (clL [] []).length) m = true) : Meets Tryz.prog fPd [bkW, .dsl 1 m] ([oSh .qzz .qzz, fSp L].map PObj.toA) plE ([oSh .qzz .qzz, fSp L].map PObj.toA) := by
  have hC := clL_le h
  have hck : ckCeD (clL [] []) [oSh .qzz .qzz] = true := decide_eq_true (cellsD_meets h)
  have hw := wrgD_eq (L := L) (C := (clL [] [])) (n := (clL [] []).length) (m := m)
  rw [hs] at hw
  generalize (clL [] []) = C at *
  have hL : LoopsOK Tryz.prog (lvPd (pr0 L) 2 m C.length C [] [] 0 0 false true true) 2 (restC 2 bPd) := pd_loopsOK fun e he t => by cases he; exact eAt_ok (show LAnsOK Tryz.prog loopP 2 (sPd C (pr0 L) 2 m C.length .qzz .qzz 0 []) (outP (pr0 L) 2 [] [] 0 0 false true true) from ⟨(fun e => by cases e), fun _ => trivial⟩) 2 t
  have hrest : GoesTo Tryz.prog Tryz.f15 [oSh .qzz .qzz, fSp L] pure2 (restC 2 bPd) (sP7 C (pr0 L) 2 m C.length) (plE, [oSh .qzz .qzz, fSp L]) := by
    refine goes_code (pre := [oSh .qzz .qzz, fSp L]) (qzv (qxw C) host qyz 20) hL ((rest_0 (L := L) (C := C) (P := []) (B := []) (m := m) (n := C.length) (a := 0) (b := 0) (o := false) (bP := true) (bB := true)).trans ?_)
    rw [qzy (all1 (decide_eq_true ⟨⟨h1, by omega⟩, Nat.le_refl _, hC⟩)), bcT hw]
    rfl
  obtain ⟨res, post, k1, k2⟩ := goes_meets (R := AV × List PObj) (NF := 64) (args := [bkW, .dsl 1 m]) (pre := [oSh .qzz .qzz, fSp L]) (k := pure2) host Tryz.func15 pd_body
    (goes_cutV (pre := [oSh .qzz .qzz, fSp L]) (qzv (qxw C) host qyz 20) qyt ((hd_0 (L := L) (C := C) (m := m)).trans (show _ = some ((Ex.normal : Ex), sP7 C (pr0 L) 2 m C.length) by rw [qzy (all1 hck)]; cases C <;> rfl)) rfl hrest)
  cases k2
  exact k1
open Classical in
theorem pdm_x {x : List CV} {X : List (List CV)} {L : List (List CV)} {m : Nat} (h : okBk (x :: X) []) (h1 : m ≤ L.length) (h2 : m ≤ 400) (hs : wrgB L (tkN (clL (x :: X) []) (clL (x :: X) []).length) m = false) : Meets Tryz.prog fPd [bkW, .dsl 1 m] ([oSh (.vec 2 (x :: X).length) .qzz, fSp L, vC (x :: X)].map PObj.toA) (plV (plR 3 (plP (clL (x :: X) []) L m)) (clR (3 + (plO (plP (clL (x :: X) []) L m)).length) (plB (clL (x :: X) []) L m))) (([oSh (.vec 2 (x :: X).length) .qzz, fSp L, vC (x :: X)] ++ plO (plP (clL (x :: X) []) L m) ++ clO (plB (clL (x :: X) []) L m)).map PObj.toA) := by
  have hC := clL_le h
  have hr := rtD_of h h1 h2 hs
  have lo := loopD_x (X := x :: X) (p := (x :: X).length) hr hC
  have hck : ckCeD (clL (x :: X) []) [oSh (.vec 1 (x :: X).length) .qzz, vC (x :: X)] = true := decide_eq_true (cellsD_meets h)
  have e1 : (plN L (tkN (clL (x :: X) []) (clL (x :: X) []).length) m).P = plP (clL (x :: X) []) L m := rfl
  have e2 : (plN L (tkN (clL (x :: X) []) (clL (x :: X) []).length) m).B = plB (clL (x :: X) []) L m := rfl
  rw [e1, e2] at lo
  have hw := wrgD_eq (L := L) (C := (clL (x :: X) [])) (n := (clL (x :: X) []).length) (m := m)
  rw [hs] at hw
  generalize plP (clL (x :: X) []) L m = P at *
  generalize plB (clL (x :: X) []) L m = B at *
  generalize (clL (x :: X) []) = C at *
  have hL : LoopsOK Tryz.prog (lvPd (prX (x :: X) L (x :: X).length) 3 m C.length C P B P.length B.length true (isNil P) (isNil B)) 3 (restC 2 bPd) := pd_loopsOK fun e he t => by cases he; exact eAt_ok (outP_ok lo) 3 t
  have hrest : GoesTo Tryz.prog Tryz.f15 [oSh (.vec 2 (x :: X).length) .qzz, fSp L, vC (x :: X)] pure2 (restC 2 bPd) (sP7 C (prX (x :: X) L (x :: X).length) 3 m C.length) (plV (plR 3 P) (clR (3 + (plO P).length) B), [oSh (.vec 2 (x :: X).length) .qzz, fSp L, vC (x :: X)] ++ plO P ++ clO B) := by
    refine goes_code (pre := [oSh (.vec 2 (x :: X).length) .qzz, fSp L, vC (x :: X)]) (qzv (qxw C) host qyz 20) hL ((rest_x (X := x :: X) (p := (x :: X).length) (L := L) (C := C) (P := P) (B := B) (m := m) (n := C.length) (a := P.length) (b := B.length) (o := true) (bP := isNil P) (bB := isNil B)).trans ?_)
    rw [qzy (all1 (decide_eq_true ⟨⟨h1, by omega⟩, Nat.le_refl _, hC⟩)), bcF hw, qzy (all2 (qzt _) rfl)]
    cases P <;> cases B <;> rfl
  obtain ⟨res, post, k1, k2⟩ := goes_meets (R := AV × List PObj) (NF := 64) (args := [bkW, .dsl 1 m]) (pre := [oSh (.vec 2 (x :: X).length) .qzz, fSp L, vC (x :: X)]) (k := pure2) host Tryz.func15 pd_body
    (goes_cutV (pre := [oSh (.vec 2 (x :: X).length) .qzz, fSp L, vC (x :: X)]) (qzv (qxw C) host qyz 20) qyt ((hd_x (X := x :: X) (p := (x :: X).length) (L := L) (C := C) (m := m)).trans (show _ = some ((Ex.normal : Ex), sP7 C (prX (x :: X) L (x :: X).length) 3 m C.length) by rw [qzy (all1 hck)]; cases C <;> rfl)) rfl hrest)
  cases k2
  exact k1
open Classical in
theorem pde_x {x : List CV} {X : List (List CV)} {L : List (List CV)} {m : Nat} (h : okBk (x :: X) []) (h1 : m ≤ L.length) (h2 : m ≤ 400) (hs : wrgB L (tkN (clL (x :: X) []) (clL (x :: X) []).length) m = true) : Meets Tryz.prog fPd [bkW, .dsl 1 m] ([oSh (.vec 2 (x :: X).length) .qzz, fSp L, vC (x :: X)].map PObj.toA) plE ([oSh (.vec 2 (x :: X).length) .qzz, fSp L, vC (x :: X)].map PObj.toA) := by
  have hC := clL_le h
  have hck : ckCeD (clL (x :: X) []) [oSh (.vec 1 (x :: X).length) .qzz, vC (x :: X)] = true := decide_eq_true (cellsD_meets h)
  have hw := wrgD_eq (L := L) (C := (clL (x :: X) [])) (n := (clL (x :: X) []).length) (m := m)
  rw [hs] at hw
  generalize (clL (x :: X) []) = C at *
  have hL : LoopsOK Tryz.prog (lvPd (prX (x :: X) L (x :: X).length) 3 m C.length C [] [] 0 0 false true true) 3 (restC 2 bPd) := pd_loopsOK fun e he t => by cases he; exact eAt_ok (show LAnsOK Tryz.prog loopP 3 (sPd C (prX (x :: X) L (x :: X).length) 3 m C.length .qzz .qzz 0 []) (outP (prX (x :: X) L (x :: X).length) 3 [] [] 0 0 false true true) from ⟨(fun e => by cases e), fun _ => trivial⟩) 3 t
  have hrest : GoesTo Tryz.prog Tryz.f15 [oSh (.vec 2 (x :: X).length) .qzz, fSp L, vC (x :: X)] pure2 (restC 2 bPd) (sP7 C (prX (x :: X) L (x :: X).length) 3 m C.length) (plE, [oSh (.vec 2 (x :: X).length) .qzz, fSp L, vC (x :: X)]) := by
    refine goes_code (pre := [oSh (.vec 2 (x :: X).length) .qzz, fSp L, vC (x :: X)]) (qzv (qxw C) host qyz 20) hL ((rest_x (X := x :: X) (p := (x :: X).length) (L := L) (C := C) (P := []) (B := []) (m := m) (n := C.length) (a := 0) (b := 0) (o := false) (bP := true) (bB := true)).trans ?_)
    rw [qzy (all1 (decide_eq_true ⟨⟨h1, by omega⟩, Nat.le_refl _, hC⟩)), bcT hw]
    rfl
  obtain ⟨res, post, k1, k2⟩ := goes_meets (R := AV × List PObj) (NF := 64) (args := [bkW, .dsl 1 m]) (pre := [oSh (.vec 2 (x :: X).length) .qzz, fSp L, vC (x :: X)]) (k := pure2) host Tryz.func15 pd_body
    (goes_cutV (pre := [oSh (.vec 2 (x :: X).length) .qzz, fSp L, vC (x :: X)]) (qzv (qxw C) host qyz 20) qyt ((hd_x (X := x :: X) (p := (x :: X).length) (L := L) (C := C) (m := m)).trans (show _ = some ((Ex.normal : Ex), sP7 C (prX (x :: X) L (x :: X).length) 3 m C.length) by rw [qzy (all1 hck)]; cases C <;> rfl)) rfl hrest)
  cases k2
  exact k1
open Classical in
theorem pdm_y {y : List CV} {Y : List (List CV)} {L : List (List CV)} {m : Nat} (h : okBk [] (y :: Y)) (h1 : m ≤ L.length) (h2 : m ≤ 400) (hs : wrgB L (tkN (clL [] (y :: Y)) (clL [] (y :: Y)).length) m = false) : Meets Tryz.prog fPd [bkW, .dsl 1 m] ([oSh .qzz (.vec 2 (y :: Y).length), fSp L, vC (y :: Y)].map PObj.toA) (plV (plR 3 (plP (clL [] (y :: Y)) L m)) (clR (3 + (plO (plP (clL [] (y :: Y)) L m)).length) (plB (clL [] (y :: Y)) L m))) (([oSh .qzz (.vec 2 (y :: Y).length), fSp L, vC (y :: Y)] ++ plO (plP (clL [] (y :: Y)) L m) ++ clO (plB (clL [] (y :: Y)) L m)).map PObj.toA) := by
  have hC := clL_le h
  have hr := rtD_of h h1 h2 hs
  have lo := loopD_y (Y := y :: Y) (q := (y :: Y).length) hr hC
  have hck : ckCeD (clL [] (y :: Y)) [oSh .qzz (.vec 1 (y :: Y).length), vC (y :: Y)] = true := decide_eq_true (cellsD_meets h)
  have e1 : (plN L (tkN (clL [] (y :: Y)) (clL [] (y :: Y)).length) m).P = plP (clL [] (y :: Y)) L m := rfl
  have e2 : (plN L (tkN (clL [] (y :: Y)) (clL [] (y :: Y)).length) m).B = plB (clL [] (y :: Y)) L m := rfl
  rw [e1, e2] at lo
  have hw := wrgD_eq (L := L) (C := (clL [] (y :: Y))) (n := (clL [] (y :: Y)).length) (m := m)
  rw [hs] at hw
  generalize plP (clL [] (y :: Y)) L m = P at *
  generalize plB (clL [] (y :: Y)) L m = B at *
  generalize (clL [] (y :: Y)) = C at *
  have hL : LoopsOK Tryz.prog (lvPd (prY (y :: Y) L (y :: Y).length) 3 m C.length C P B P.length B.length true (isNil P) (isNil B)) 3 (restC 2 bPd) := pd_loopsOK fun e he t => by cases he; exact eAt_ok (outP_ok lo) 3 t
  have hrest : GoesTo Tryz.prog Tryz.f15 [oSh .qzz (.vec 2 (y :: Y).length), fSp L, vC (y :: Y)] pure2 (restC 2 bPd) (sP7 C (prY (y :: Y) L (y :: Y).length) 3 m C.length) (plV (plR 3 P) (clR (3 + (plO P).length) B), [oSh .qzz (.vec 2 (y :: Y).length), fSp L, vC (y :: Y)] ++ plO P ++ clO B) := by
    refine goes_code (pre := [oSh .qzz (.vec 2 (y :: Y).length), fSp L, vC (y :: Y)]) (qzv (qxw C) host qyz 20) hL ((rest_y (Y := y :: Y) (q := (y :: Y).length) (L := L) (C := C) (P := P) (B := B) (m := m) (n := C.length) (a := P.length) (b := B.length) (o := true) (bP := isNil P) (bB := isNil B)).trans ?_)
    rw [qzy (all1 (decide_eq_true ⟨⟨h1, by omega⟩, Nat.le_refl _, hC⟩)), bcF hw, qzy (all2 (qzt _) rfl)]
    cases P <;> cases B <;> rfl
  obtain ⟨res, post, k1, k2⟩ := goes_meets (R := AV × List PObj) (NF := 64) (args := [bkW, .dsl 1 m]) (pre := [oSh .qzz (.vec 2 (y :: Y).length), fSp L, vC (y :: Y)]) (k := pure2) host Tryz.func15 pd_body
    (goes_cutV (pre := [oSh .qzz (.vec 2 (y :: Y).length), fSp L, vC (y :: Y)]) (qzv (qxw C) host qyz 20) qyt ((hd_y (Y := y :: Y) (q := (y :: Y).length) (L := L) (C := C) (m := m)).trans (show _ = some ((Ex.normal : Ex), sP7 C (prY (y :: Y) L (y :: Y).length) 3 m C.length) by rw [qzy (all1 hck)]; cases C <;> rfl)) rfl hrest)
  cases k2
  exact k1
open Classical in
theorem pde_y {y : List CV} {Y : List (List CV)} {L : List (List CV)} {m : Nat} (h : okBk [] (y :: Y)) (h1 : m ≤ L.length) (h2 : m ≤ 400) (hs : wrgB L (tkN (clL [] (y :: Y)) (clL [] (y :: Y)).length) m = true) : Meets Tryz.prog fPd [bkW, .dsl 1 m] ([oSh .qzz (.vec 2 (y :: Y).length), fSp L, vC (y :: Y)].map PObj.toA) plE ([oSh .qzz (.vec 2 (y :: Y).length), fSp L, vC (y :: Y)].map PObj.toA) := by
  have hC := clL_le h
  have hck : ckCeD (clL [] (y :: Y)) [oSh .qzz (.vec 1 (y :: Y).length), vC (y :: Y)] = true := decide_eq_true (cellsD_meets h)
  have hw := wrgD_eq (L := L) (C := (clL [] (y :: Y))) (n := (clL [] (y :: Y)).length) (m := m)
  rw [hs] at hw
  generalize (clL [] (y :: Y)) = C at *
  have hL : LoopsOK Tryz.prog (lvPd (prY (y :: Y) L (y :: Y).length) 3 m C.length C [] [] 0 0 false true true) 3 (restC 2 bPd) := pd_loopsOK fun e he t => by cases he; exact eAt_ok (show LAnsOK Tryz.prog loopP 3 (sPd C (prY (y :: Y) L (y :: Y).length) 3 m C.length .qzz .qzz 0 []) (outP (prY (y :: Y) L (y :: Y).length) 3 [] [] 0 0 false true true) from ⟨(fun e => by cases e), fun _ => trivial⟩) 3 t
  have hrest : GoesTo Tryz.prog Tryz.f15 [oSh .qzz (.vec 2 (y :: Y).length), fSp L, vC (y :: Y)] pure2 (restC 2 bPd) (sP7 C (prY (y :: Y) L (y :: Y).length) 3 m C.length) (plE, [oSh .qzz (.vec 2 (y :: Y).length), fSp L, vC (y :: Y)]) := by
    refine goes_code (pre := [oSh .qzz (.vec 2 (y :: Y).length), fSp L, vC (y :: Y)]) (qzv (qxw C) host qyz 20) hL ((rest_y (Y := y :: Y) (q := (y :: Y).length) (L := L) (C := C) (P := []) (B := []) (m := m) (n := C.length) (a := 0) (b := 0) (o := false) (bP := true) (bB := true)).trans ?_)
    rw [qzy (all1 (decide_eq_true ⟨⟨h1, by omega⟩, Nat.le_refl _, hC⟩)), bcT hw]
    rfl
  obtain ⟨res, post, k1, k2⟩ := goes_meets (R := AV × List PObj) (NF := 64) (args := [bkW, .dsl 1 m]) (pre := [oSh .qzz (.vec 2 (y :: Y).length), fSp L, vC (y :: Y)]) (k := pure2) host Tryz.func15 pd_body
    (goes_cutV (pre := [oSh .qzz (.vec 2 (y :: Y).length), fSp L, vC (y :: Y)]) (qzv (qxw C) host qyz 20) qyt ((hd_y (Y := y :: Y) (q := (y :: Y).length) (L := L) (C := C) (m := m)).trans (show _ = some ((Ex.normal : Ex), sP7 C (prY (y :: Y) L (y :: Y).length) 3 m C.length) by rw [qzy (all1 hck)]; cases C <;> rfl)) rfl hrest)
  cases k2
  exact k1
open Classical in
theorem pdm_b {x : List CV} {X : List (List CV)} {y : List CV} {Y : List (List CV)} {L : List (List CV)} {m : Nat} (h : okBk (x :: X) (y :: Y)) (h1 : m ≤ L.length) (h2 : m ≤ 400) (hs : wrgB L (tkN (clL (x :: X) (y :: Y)) (clL (x :: X) (y :: Y)).length) m = false) : Meets Tryz.prog fPd [bkW, .dsl 1 m] ([oSh (.vec 2 (x :: X).length) (.vec 3 (y :: Y).length), fSp L, vC (x :: X), vC (y :: Y)].map PObj.toA) (plV (plR 4 (plP (clL (x :: X) (y :: Y)) L m)) (clR (4 + (plO (plP (clL (x :: X) (y :: Y)) L m)).length) (plB (clL (x :: X) (y :: Y)) L m))) (([oSh (.vec 2 (x :: X).length) (.vec 3 (y :: Y).length), fSp L, vC (x :: X), vC (y :: Y)] ++ plO (plP (clL (x :: X) (y :: Y)) L m) ++ clO (plB (clL (x :: X) (y :: Y)) L m)).map PObj.toA) := by
  have hC := clL_le h
  have hr := rtD_of h h1 h2 hs
  have lo := loopD_b (X := x :: X) (Y := y :: Y) (p := (x :: X).length) (q := (y :: Y).length) hr hC
  have hck : ckCeD (clL (x :: X) (y :: Y)) [oSh (.vec 1 (x :: X).length) (.vec 2 (y :: Y).length), vC (x :: X), vC (y :: Y)] = true := decide_eq_true (cellsD_meets h)
  have e1 : (plN L (tkN (clL (x :: X) (y :: Y)) (clL (x :: X) (y :: Y)).length) m).P = plP (clL (x :: X) (y :: Y)) L m := rfl
  have e2 : (plN L (tkN (clL (x :: X) (y :: Y)) (clL (x :: X) (y :: Y)).length) m).B = plB (clL (x :: X) (y :: Y)) L m := rfl
  rw [e1, e2] at lo
  have hw := wrgD_eq (L := L) (C := (clL (x :: X) (y :: Y))) (n := (clL (x :: X) (y :: Y)).length) (m := m)
  rw [hs] at hw
  generalize plP (clL (x :: X) (y :: Y)) L m = P at *
  generalize plB (clL (x :: X) (y :: Y)) L m = B at *
  generalize (clL (x :: X) (y :: Y)) = C at *
  have hL : LoopsOK Tryz.prog (lvPd (prB (x :: X) (y :: Y) L (x :: X).length (y :: Y).length) 4 m C.length C P B P.length B.length true (isNil P) (isNil B)) 4 (restC 2 bPd) := pd_loopsOK fun e he t => by cases he; exact eAt_ok (outP_ok lo) 4 t
  have hrest : GoesTo Tryz.prog Tryz.f15 [oSh (.vec 2 (x :: X).length) (.vec 3 (y :: Y).length), fSp L, vC (x :: X), vC (y :: Y)] pure2 (restC 2 bPd) (sP7 C (prB (x :: X) (y :: Y) L (x :: X).length (y :: Y).length) 4 m C.length) (plV (plR 4 P) (clR (4 + (plO P).length) B), [oSh (.vec 2 (x :: X).length) (.vec 3 (y :: Y).length), fSp L, vC (x :: X), vC (y :: Y)] ++ plO P ++ clO B) := by
    refine goes_code (pre := [oSh (.vec 2 (x :: X).length) (.vec 3 (y :: Y).length), fSp L, vC (x :: X), vC (y :: Y)]) (qzv (qxw C) host qyz 20) hL ((rest_b (X := x :: X) (Y := y :: Y) (p := (x :: X).length) (q := (y :: Y).length) (L := L) (C := C) (P := P) (B := B) (m := m) (n := C.length) (a := P.length) (b := B.length) (o := true) (bP := isNil P) (bB := isNil B)).trans ?_)
    rw [qzy (all1 (decide_eq_true ⟨⟨h1, by omega⟩, Nat.le_refl _, hC⟩)), bcF hw, qzy (all2 (qzt _) rfl)]
    cases P <;> cases B <;> rfl
  obtain ⟨res, post, k1, k2⟩ := goes_meets (R := AV × List PObj) (NF := 64) (args := [bkW, .dsl 1 m]) (pre := [oSh (.vec 2 (x :: X).length) (.vec 3 (y :: Y).length), fSp L, vC (x :: X), vC (y :: Y)]) (k := pure2) host Tryz.func15 pd_body
    (goes_cutV (pre := [oSh (.vec 2 (x :: X).length) (.vec 3 (y :: Y).length), fSp L, vC (x :: X), vC (y :: Y)]) (qzv (qxw C) host qyz 20) qyt ((hd_b (X := x :: X) (Y := y :: Y) (p := (x :: X).length) (q := (y :: Y).length) (L := L) (C := C) (m := m)).trans (show _ = some ((Ex.normal : Ex), sP7 C (prB (x :: X) (y :: Y) L (x :: X).length (y :: Y).length) 4 m C.length) by rw [qzy (all1 hck)]; cases C <;> rfl)) rfl hrest)
  cases k2
  exact k1
open Classical in
theorem pde_b {x : List CV} {X : List (List CV)} {y : List CV} {Y : List (List CV)} {L : List (List CV)} {m : Nat} (h : okBk (x :: X) (y :: Y)) (h1 : m ≤ L.length) (h2 : m ≤ 400) (hs : wrgB L (tkN (clL (x :: X) (y :: Y)) (clL (x :: X) (y :: Y)).length) m = true) : Meets Tryz.prog fPd [bkW, .dsl 1 m] ([oSh (.vec 2 (x :: X).length) (.vec 3 (y :: Y).length), fSp L, vC (x :: X), vC (y :: Y)].map PObj.toA) plE ([oSh (.vec 2 (x :: X).length) (.vec 3 (y :: Y).length), fSp L, vC (x :: X), vC (y :: Y)].map PObj.toA) := by
  have hC := clL_le h
  have hck : ckCeD (clL (x :: X) (y :: Y)) [oSh (.vec 1 (x :: X).length) (.vec 2 (y :: Y).length), vC (x :: X), vC (y :: Y)] = true := decide_eq_true (cellsD_meets h)
  have hw := wrgD_eq (L := L) (C := (clL (x :: X) (y :: Y))) (n := (clL (x :: X) (y :: Y)).length) (m := m)
  rw [hs] at hw
  generalize (clL (x :: X) (y :: Y)) = C at *
  have hL : LoopsOK Tryz.prog (lvPd (prB (x :: X) (y :: Y) L (x :: X).length (y :: Y).length) 4 m C.length C [] [] 0 0 false true true) 4 (restC 2 bPd) := pd_loopsOK fun e he t => by cases he; exact eAt_ok (show LAnsOK Tryz.prog loopP 4 (sPd C (prB (x :: X) (y :: Y) L (x :: X).length (y :: Y).length) 4 m C.length .qzz .qzz 0 []) (outP (prB (x :: X) (y :: Y) L (x :: X).length (y :: Y).length) 4 [] [] 0 0 false true true) from ⟨(fun e => by cases e), fun _ => trivial⟩) 4 t
  have hrest : GoesTo Tryz.prog Tryz.f15 [oSh (.vec 2 (x :: X).length) (.vec 3 (y :: Y).length), fSp L, vC (x :: X), vC (y :: Y)] pure2 (restC 2 bPd) (sP7 C (prB (x :: X) (y :: Y) L (x :: X).length (y :: Y).length) 4 m C.length) (plE, [oSh (.vec 2 (x :: X).length) (.vec 3 (y :: Y).length), fSp L, vC (x :: X), vC (y :: Y)]) := by
    refine goes_code (pre := [oSh (.vec 2 (x :: X).length) (.vec 3 (y :: Y).length), fSp L, vC (x :: X), vC (y :: Y)]) (qzv (qxw C) host qyz 20) hL ((rest_b (X := x :: X) (Y := y :: Y) (p := (x :: X).length) (q := (y :: Y).length) (L := L) (C := C) (P := []) (B := []) (m := m) (n := C.length) (a := 0) (b := 0) (o := false) (bP := true) (bB := true)).trans ?_)
    rw [qzy (all1 (decide_eq_true ⟨⟨h1, by omega⟩, Nat.le_refl _, hC⟩)), bcT hw]
    rfl
  obtain ⟨res, post, k1, k2⟩ := goes_meets (R := AV × List PObj) (NF := 64) (args := [bkW, .dsl 1 m]) (pre := [oSh (.vec 2 (x :: X).length) (.vec 3 (y :: Y).length), fSp L, vC (x :: X), vC (y :: Y)]) (k := pure2) host Tryz.func15 pd_body
    (goes_cutV (pre := [oSh (.vec 2 (x :: X).length) (.vec 3 (y :: Y).length), fSp L, vC (x :: X), vC (y :: Y)]) (qzv (qxw C) host qyz 20) qyt ((hd_b (X := x :: X) (Y := y :: Y) (p := (x :: X).length) (q := (y :: Y).length) (L := L) (C := C) (m := m)).trans (show _ = some ((Ex.normal : Ex), sP7 C (prB (x :: X) (y :: Y) L (x :: X).length (y :: Y).length) 4 m C.length) by rw [qzy (all1 hck)]; cases C <;> rfl)) rfl hrest)
  cases k2
  exact k1
end Go.Proofs.YtphhepnldndbhaaGreatDoor.Dp
namespace Go.Proofs.YtphhepnldndbhaaGreatDoor.Dp
open Go Sx Go.Proofs.YtphhepnldndbhaaGreatDoor
def covM (L : List (List CV)) (n : Nat) (s r c : Int) : Nat := firstN (fun j => hasR (Sx.rowAt L j) s r c) n
def okCv (L : List (List CV)) (n : Nat) (r c : Int) : Prop := (inI r = true ∧ inI c = true) ∧ (n ≤ L.length ∧ n ≤ 1000) ∧ ∀ j, j < n → inI (c1 (Sx.rowAt L j)) = true ∧ inI (c2 (Sx.rowAt L j)) = true
noncomputable def tCd : Tab := [(21, eAr14), (34, eHasD)]
theorem tCd_ok : TabOK Tryz.prog tCd := .cons eAr14_ok (.cons eHasD_ok .nil)
noncomputable abbrev loopCv : Code := (qyu (bodyOf Tryz.f18)).headD .skip
section
variable (L : List (List CV)) (x : List CV) (n : Nat) (i s r c : Int) (ok b : Bool)
def sCv (i : Int) : qzw := ⟨nn 3 ++ (some (.ptr 1 0) :: some (.ptr 2 0) :: nn 3 ++ (some (.dsl 0 n) :: some (.int .i64 (n : Int)) :: some (.int .i64 i) :: nn 10)), some (fSp L) :: some (oA3 s r c) :: some (oS5 0 0 0 0 0) :: nn 64⟩
def sCvX : qzw := ⟨nn 4 ++ (some (.ptr 1 0) :: nn 16), some (fSp L) :: some (oS5 0 0 0 0 0) :: nn 64⟩
def sCvR : qzw := ⟨nn 4 ++ (some (.ptr 1 0) :: some (.bool true) :: nn 15), some (fSp L) :: some (oS5 (c0 x) (c1 x) (c2 x) (c3 x) (c4 x)) :: nn 64⟩
theorem rCv : code (ent Tryz.prog tCv nolv 64 1 20) Tryz.prog {} 1 64 1 loopCv (sCv L n s r c i) (endK 1 64 (fun n => hasN [3, 4, 8, 9, 10] n) (fun n => hasN [4, 5] n))
  = qyw (decide (i < (n : Int))) (chks (qyw (hasR (Sx.rowAt L i.toNat) s r c) (some (.ret, sCvR L (Sx.rowAt L i.toNat))) (some (.normal, sCv L n s r c (up1 i)))) [ixN i n, ckF i L]) (some (.exit 0, sCvX L)) := by kernel_rfl
noncomputable def lvCv : FuncId → Lv := lvOf 18 (fun _ => some [3, 4, 8, 9, 10]) (oneL 2 (eAt 1 (sCv L n s r c 0) (.chk ok (.br b (.out .ret (sCvR L x)) (.out (.exit 0) (sCvX L))))))
theorem cCv : Comes tCv (lvCv L x n s r c ok b) 18 [.dsl 0 n, .agg [.int .i64 s, .int .i64 r, .int .i64 c]] [fSp L]
  (.chk (eqSt (sCv L n s r c 0) (sCv L n s r c 0)) (.chk ok (.br b (.ret (cvV x) [fSp L]) (.ret cvN [fSp L])))) := by unfold Comes; kernel_rfl
end
section
variable {L : List (List CV)} {n : Nat} {s r c : Int}
theorem rdCv (hr : inI r = true ∧ inI c = true) (hn : n ≤ L.length) (hl : n ≤ 1000) (hL : ∀ j, j < n → inI (c1 (Sx.rowAt L j)) = true ∧ inI (c2 (Sx.rowAt L j)) = true) {j : Nat} (hj : j < n) : code (ent Tryz.prog tCv nolv 64 1 20) Tryz.prog {} 1 64 1 loopCv (sCv L n s r c (j : Int)) (endK 1 64 (fun n => hasN [3, 4, 8, 9, 10] n) (fun n => hasN [4, 5] n))
  = qyw (hasR (Sx.rowAt L j) s r c) (some (.ret, sCvR L (Sx.rowAt L j))) (some (.normal, sCv L n s r c ((j + 1 : Nat) : Int))) := by
  rw [rCv, bcT (decide_eq_true (by omega)), up1_nat (by omega), Int.toNat_natCast]
  refine qzy (fun b hb => ?_)
  simp only [List.mem_cons, List.not_mem_nil, or_false] at hb
  rcases hb with rfl | rfl
  · exact ixN_nat hj
  · exact ckF_nat (by omega)
theorem lpCv (hr : inI r = true ∧ inI c = true) (hn : n ≤ L.length) (hl : n ≤ 1000) (hL : ∀ j, j < n → inI (c1 (Sx.rowAt L j)) = true ∧ inI (c2 (Sx.rowAt L j)) = true) : (decide (covM L n s r c < n) = true → Tri Tryz.prog (.loop loopCv) (sCv L n s r c 0).toA .ret (sCvR L (Sx.rowAt L (covM L n s r c))).toA 1) ∧ (decide (covM L n s r c < n) = false → Tri Tryz.prog (.loop loopCv) (sCv L n s r c 0).toA (.exit 0) (sCvX L).toA 1) := by
  have key := firstN_spec (fun j => hasR (Sx.rowAt L j) s r c) n
  have h1 : covM L n s r c ≤ n := key.1
  have h2 : ∀ i, i < covM L n s r c → hasR (Sx.rowAt L i) s r c = false := key.2.1
  have h3 : covM L n s r c < n → hasR (Sx.rowAt L (covM L n s r c)) s r c = true := key.2.2
  clear key
  refine ⟨fun h => ?_, fun h => ?_⟩
  · have h := of_decide_eq_true h
    refine tri_up (body := loopCv) (fun j => (sCv L n s r c (j : Int)).toA) (fun e => by cases e) (covM L n s r c) (fun k hk => qzx tCv_ok ((rdCv hr hn hl hL (by omega)).trans (by rw [bcF (h2 k hk)]))) ?_ 0 (Nat.zero_le _)
    exact qzx tCv_ok ((rdCv hr hn hl hL h).trans (by rw [bcT (h3 h)]))
  · have h := of_decide_eq_false h
    refine tri_up (body := loopCv) (fun j => (sCv L n s r c (j : Int)).toA) (fun e => by cases e) n (fun k hk => qzx tCv_ok ((rdCv hr hn hl hL hk).trans (by rw [bcF (h2 k (by omega))]))) ?_ 0 (Nat.zero_le _)
    exact qzx tCv_ok ((rCv L n (n : Int) s r c).trans (by rw [bcF (decide_eq_false (by omega))]))
end
open Classical in
noncomputable def eCv : Ent := fun args pre => match args, pre with
  | [.dsl j n, .agg [.int .i64 s, .int .i64 r, .int .i64 c]], [.raw (.flatR fl sh L)] => .chk (Nat.beq j 0 && !fl && shEq sh shS) (.chk (decide (okCv L n r c)) (.br (decide (covM L n s r c < n)) (.ret (cvV (Sx.rowAt L (covM L n s r c))) [.raw (.flatR fl sh L)]) (.ret cvN [.raw (.flatR fl sh L)])))
  | _, _ => .fail
open Classical in
theorem eCv_ok : EntOK Tryz.prog 18 eCv := fun args pre => by
  unfold eCv
  split
  · rename_i j n s r c fl sh L
    refine ⟨fun g0 => ⟨fun g1 => ?_, fun _ => trivial⟩, fun _ => trivial⟩
    simp only [Bool.and_eq_true, beqT, Bool.not_eq_true'] at g0
    obtain ⟨⟨rfl, rfl⟩, g⟩ := g0
    obtain rfl := shEq_of g
    obtain ⟨hr, ⟨hn, hl⟩, hL⟩ := of_decide_eq_true g1
    have key := lpCv (s := s) hr hn hl hL
    refine ⟨fun hb => ?_, fun hb => ?_⟩
    · refine qyx (pre := [fSp L]) (post := [fSp L]) tCv_ok host ((cCv L (Sx.rowAt L (covM L n s r c)) n s r c true true).trans ?_) (lvOne_ok (x := loopCv) Tryz.func18 (by kernel_rfl) fun K t => eAt_ok (a := .chk true (.br true (.out .ret (sCvR L (Sx.rowAt L (covM L n s r c)))) (.out (.exit 0) (sCvX L)))) ⟨fun _ => ⟨fun _ => key.1 hb, fun e => by cases e⟩, fun _ => trivial⟩ K t)
      rw [chkT (qzt _), chkT rfl, brT rfl]; rfl
    · refine qyx (pre := [fSp L]) (post := [fSp L]) tCv_ok host ((cCv L (Sx.rowAt L (covM L n s r c)) n s r c true false).trans ?_) (lvOne_ok (x := loopCv) Tryz.func18 (by kernel_rfl) fun K t => eAt_ok (a := .chk true (.br false (.out .ret (sCvR L (Sx.rowAt L (covM L n s r c)))) (.out (.exit 0) (sCvX L)))) ⟨fun _ => ⟨(fun e => by cases e), fun _ => key.2 hb⟩, fun _ => trivial⟩ K t)
      rw [chkT (qzt _), chkT rfl, brF rfl]; rfl
  · trivial
noncomputable abbrev loopCd : Code := (qyu (bodyOf Tryz.f19)).headD .skip
section
variable (L : List (List CV)) (x : List CV) (n : Nat) (i s r c : Int) (ok b : Bool)
def sCd (i : Int) : qzw := ⟨some (.dsl 0 n) :: nn 2 ++ (some (.ptr 1 0) :: some (.ptr 2 0) :: none :: some (.int .i64 i) :: nn 20), some (fSp L) :: some (oA3 s r c) :: some (oS5 0 0 0 0 0) :: nn 64⟩
def sCdX : qzw := ⟨nn 4 ++ (some (.ptr 1 0) :: nn 22), some (fSp L) :: some (oS5 0 0 0 0 0) :: nn 64⟩
def sCdR : qzw := ⟨nn 4 ++ (some (.ptr 1 0) :: some (.bool true) :: nn 21), some (fSp L) :: some (oS5 (c0 x) (c1 x) (c2 x) (c3 x) (c4 x)) :: nn 64⟩
theorem rCd : code (ent Tryz.prog tCd nolv 64 1 20) Tryz.prog {} 1 64 1 loopCd (sCd L n s r c i) (endK 1 64 (fun n => hasN [0, 3, 4, 6] n) (fun n => hasN [4, 5] n))
  = qyw (decide (i < (n : Int))) (chks (qyw (hasR (Sx.rowAt L i.toNat) s r c) (chks (some (.ret, sCdR L (Sx.rowAt L i.toNat))) [ixN i n, ckF i L]) (some (.normal, sCd L n s r c (up1 i)))) [ixN i n, ckF i L, inI (c1 (Sx.rowAt L i.toNat)) && inI (c2 (Sx.rowAt L i.toNat))]) (some (.exit 0, sCdX L)) := by kernel_rfl
noncomputable def lvCd : FuncId → Lv := lvOf 19 (fun _ => some [0, 3, 4, 6]) (oneL 2 (eAt 1 (sCd L n s r c 0) (.chk ok (.br b (.out .ret (sCdR L x)) (.out (.exit 0) (sCdX L))))))
theorem cCd : Comes tCd (lvCd L x n s r c ok b) 19 [.dsl 0 n, .agg [.int .i64 s, .int .i64 r, .int .i64 c]] [fSp L]
  (.chk (eqSt (sCd L n s r c 0) (sCd L n s r c 0)) (.chk ok (.br b (.ret (cvV x) [fSp L]) (.ret cvN [fSp L])))) := by unfold Comes; kernel_rfl
end
section
variable {L : List (List CV)} {n : Nat} {s r c : Int}
theorem rdCd (hr : inI r = true ∧ inI c = true) (hn : n ≤ L.length) (hl : n ≤ 1000) (hL : ∀ j, j < n → inI (c1 (Sx.rowAt L j)) = true ∧ inI (c2 (Sx.rowAt L j)) = true) {j : Nat} (hj : j < n) : code (ent Tryz.prog tCd nolv 64 1 20) Tryz.prog {} 1 64 1 loopCd (sCd L n s r c (j : Int)) (endK 1 64 (fun n => hasN [0, 3, 4, 6] n) (fun n => hasN [4, 5] n))
  = qyw (hasR (Sx.rowAt L j) s r c) (some (.ret, sCdR L (Sx.rowAt L j))) (some (.normal, sCd L n s r c ((j + 1 : Nat) : Int))) := by
  rw [rCd, bcT (decide_eq_true (by omega)), up1_nat (by omega), Int.toNat_natCast, qzy (x := some (Ex.ret, sCdR L (Sx.rowAt L j))) (all2 (ixN_nat hj) (ckF_nat (by omega)))]
  refine qzy (fun b hb => ?_)
  simp only [List.mem_cons, List.not_mem_nil, or_false] at hb
  rcases hb with rfl | rfl | rfl
  · exact ixN_nat hj
  · exact ckF_nat (by omega)
  · rw [(hL j hj).1, (hL j hj).2]; rfl
theorem lpCd (hr : inI r = true ∧ inI c = true) (hn : n ≤ L.length) (hl : n ≤ 1000) (hL : ∀ j, j < n → inI (c1 (Sx.rowAt L j)) = true ∧ inI (c2 (Sx.rowAt L j)) = true) : (decide (covM L n s r c < n) = true → Tri Tryz.prog (.loop loopCd) (sCd L n s r c 0).toA .ret (sCdR L (Sx.rowAt L (covM L n s r c))).toA 1) ∧ (decide (covM L n s r c < n) = false → Tri Tryz.prog (.loop loopCd) (sCd L n s r c 0).toA (.exit 0) (sCdX L).toA 1) := by
  have key := firstN_spec (fun j => hasR (Sx.rowAt L j) s r c) n
  have h1 : covM L n s r c ≤ n := key.1
  have h2 : ∀ i, i < covM L n s r c → hasR (Sx.rowAt L i) s r c = false := key.2.1
  have h3 : covM L n s r c < n → hasR (Sx.rowAt L (covM L n s r c)) s r c = true := key.2.2
  clear key
  refine ⟨fun h => ?_, fun h => ?_⟩
  · have h := of_decide_eq_true h
    refine tri_up (body := loopCd) (fun j => (sCd L n s r c (j : Int)).toA) (fun e => by cases e) (covM L n s r c) (fun k hk => qzx tCd_ok ((rdCd hr hn hl hL (by omega)).trans (by rw [bcF (h2 k hk)]))) ?_ 0 (Nat.zero_le _)
    exact qzx tCd_ok ((rdCd hr hn hl hL h).trans (by rw [bcT (h3 h)]))
  · have h := of_decide_eq_false h
    refine tri_up (body := loopCd) (fun j => (sCd L n s r c (j : Int)).toA) (fun e => by cases e) n (fun k hk => qzx tCd_ok ((rdCd hr hn hl hL hk).trans (by rw [bcF (h2 k (by omega))]))) ?_ 0 (Nat.zero_le _)
    exact qzx tCd_ok ((rCd L n (n : Int) s r c).trans (by rw [bcF (decide_eq_false (by omega))]))
end
open Classical in
noncomputable def eCd : Ent := fun args pre => match args, pre with
  | [.dsl j n, .agg [.int .i64 s, .int .i64 r, .int .i64 c]], [.raw (.flatR fl sh L)] => .chk (Nat.beq j 0 && !fl && shEq sh shS) (.chk (decide (okCv L n r c)) (.br (decide (covM L n s r c < n)) (.ret (cvV (Sx.rowAt L (covM L n s r c))) [.raw (.flatR fl sh L)]) (.ret cvN [.raw (.flatR fl sh L)])))
  | _, _ => .fail
open Classical in
theorem eCd_ok : EntOK Tryz.prog 19 eCd := fun args pre => by
  unfold eCd
  split
  · rename_i j n s r c fl sh L
    refine ⟨fun g0 => ⟨fun g1 => ?_, fun _ => trivial⟩, fun _ => trivial⟩
    simp only [Bool.and_eq_true, beqT, Bool.not_eq_true'] at g0
    obtain ⟨⟨rfl, rfl⟩, g⟩ := g0
    obtain rfl := shEq_of g
    obtain ⟨hr, ⟨hn, hl⟩, hL⟩ := of_decide_eq_true g1
    have key := lpCd (s := s) hr hn hl hL
    refine ⟨fun hb => ?_, fun hb => ?_⟩
    · refine qyx (pre := [fSp L]) (post := [fSp L]) tCd_ok host ((cCd L (Sx.rowAt L (covM L n s r c)) n s r c true true).trans ?_) (lvOne_ok (x := loopCd) Tryz.func19 (by kernel_rfl) fun K t => eAt_ok (a := .chk true (.br true (.out .ret (sCdR L (Sx.rowAt L (covM L n s r c)))) (.out (.exit 0) (sCdX L)))) ⟨fun _ => ⟨fun _ => key.1 hb, fun e => by cases e⟩, fun _ => trivial⟩ K t)
      rw [chkT (qzt _), chkT rfl, brT rfl]; rfl
    · refine qyx (pre := [fSp L]) (post := [fSp L]) tCd_ok host ((cCd L (Sx.rowAt L (covM L n s r c)) n s r c true false).trans ?_) (lvOne_ok (x := loopCd) Tryz.func19 (by kernel_rfl) fun K t => eAt_ok (a := .chk true (.br false (.out .ret (sCdR L (Sx.rowAt L (covM L n s r c)))) (.out (.exit 0) (sCdX L)))) ⟨fun _ => ⟨(fun e => by cases e), fun _ => key.2 hb⟩, fun _ => trivial⟩ K t)
      rw [chkT (qzt _), chkT rfl, brF rfl]; rfl
  · trivial
end Go.Proofs.YtphhepnldndbhaaGreatDoor.Dp
namespace Go.Proofs.YtphhepnldndbhaaGreatDoor.Sx
open Go
variable {P : Program}
end Go.Proofs.YtphhepnldndbhaaGreatDoor.Sx
namespace Go.Proofs.YtphhepnldndbhaaGreatDoor
open Go Sx
section
variable (A B : List (List CV)) (n : Nat) (i : Int) (ok : Bool)
def SameS (A B : List (List CV)) (n m : Nat) : Prop := n = m ∧ n ≤ A.length ∧ n ≤ B.length ∧ n ≤ 1000 ∧ ∀ j, j < n → eq5 (Sx.rowAt A j) (Sx.rowAt B j) = true
end
section
variable (A B : List (List CV)) (n : Nat) (i : Int) (ok : Bool)
def SameA (A B : List (List CV)) (n m : Nat) : Prop := n = m ∧ n ≤ A.length ∧ n ≤ B.length ∧ n ≤ 1000 ∧ ∀ j, j < n → eq3 (Sx.rowAt A j) (Sx.rowAt B j) = true
end
end Go.Proofs.YtphhepnldndbhaaGreatDoor
namespace Go.Proofs.YtphhepnldndbhaaGreatDoor.Dp
open Go Sx Go.Proofs.YtphhepnldndbhaaGreatDoor
noncomputable abbrev loopLSv : Code := (qyu (bodyOf Tryz.f16)).headD .skip
section
variable (A B : List (List CV)) (n : Nat) (i : Int) (ok : Bool)
def sLSv (i : Int) : qzw := ⟨some (.vec 0 n) :: some (.vec 1 n) :: nn 3 ++ (some (.int .i64 i) :: nn 20), some (vS A) :: some (vS B) :: nn 64⟩
def sLSvX : qzw := ⟨nn 26, some (vS A) :: some (vS B) :: nn 64⟩
theorem rLSv : code (ent Tryz.prog [] nolv 64 1 20) Tryz.prog {} 2 64 1 loopLSv (sLSv A B n i) (endK 2 64 (fun n => hasN [0, 1, 5] n) (fun n => hasN [] n))
  = qyw (decide (i < (n : Int))) (chks (qyw (!eq5 (Sx.rowAt A i.toNat) (Sx.rowAt B i.toNat)) (some (.ret, sLSvX A B)) (some (.normal, sLSv A B n (up1 i)))) [ixN i n, inR i A, ixN i n, inR i B]) (some (.exit 0, sLSvX A B)) := by kernel_rfl
noncomputable def lvLSv : FuncId → Lv := lvOf 16 (fun _ => some [0, 1, 5]) (oneL 4 (eAt 2 (sLSv A B n 0) (outC ok (.exit 0) (sLSvX A B))))
theorem cLSv : Comes [] (lvLSv A B n ok) 16 [.vec 0 n, .vec 1 n] [vS A, vS B] (.br ((n : Int) != (n : Int)) (.ret (.bool false) [vS A, vS B]) (.chk (eqSt (sLSv A B n 0) (sLSv A B n 0)) (.chk ok (.ret (.bool true) [vS A, vS B])))) := by unfold Comes; kernel_rfl
theorem cLSv0 : Comes [] nolv 16 [.qzz, .qzz] [] (.ret (.bool true) []) := by unfold Comes; kernel_rfl
open Classical in
noncomputable def eLSv : Ent := fun args pre => match args, pre with
  | [.qzz, .qzz], [] => .ret (.bool true) []
  | [.vec i n, .vec j m], [.vecR sh A ty, .vecR sh' B ty'] => .chk (Nat.beq i 0 && Nat.beq j 1 && shEq sh shS && shEq sh' shS && Nat.beq ty 27 && Nat.beq ty' 27) (.chk (decide (SameS A B n m)) (.ret (.bool true) [.vecR sh A ty, .vecR sh' B ty']))
  | _, _ => .fail
open Classical in
theorem eLSv_ok : EntOK Tryz.prog 16 eLSv := fun args pre => by
  unfold eLSv
  split
  · exact qyx (pre := []) (post := []) (T := []) .nil host cLSv0 qyz
  · rename_i i n j m sh A ty sh' B ty'
    refine ⟨fun g0 => ⟨fun g1 => ?_, fun _ => trivial⟩, fun _ => trivial⟩
    simp only [Bool.and_eq_true, beqT, Bool.not_eq_true'] at g0
    obtain ⟨⟨⟨⟨⟨rfl, rfl⟩, g2⟩, g3⟩, rfl⟩, rfl⟩ := g0
    obtain rfl := shEq_of g2
    obtain rfl := shEq_of g3
    obtain ⟨rfl, h1, h2, h3, h4⟩ := of_decide_eq_true g1
    have lo : Tri Tryz.prog (.loop loopLSv) (sLSv A B n 0).toA (.exit 0) (sLSvX A B).toA 2 := by
      refine tri_up (body := loopLSv) (fun j => (sLSv A B n (j : Int)).toA) (fun e => by cases e) n (fun j hj => ?_) ?_ 0 (Nat.zero_le _)
      · refine qzx (T := []) .nil ((rLSv A B n (j : Int)).trans ?_)
        have ck : ∀ b ∈ [ixN (j : Int) n, inR (j : Int) A, ixN (j : Int) n, inR (j : Int) B], b = true := by
          intro b hb
          simp only [List.mem_cons, List.not_mem_nil, or_false] at hb
          rcases hb with rfl | rfl | rfl | rfl
          · exact ixN_nat hj
          · exact inR_nat (by omega)
          · exact ixN_nat hj
          · exact inR_nat (by omega)
        rw [bcT (decide_eq_true (by omega)), qzy ck, Int.toNat_natCast, h4 j hj, bcF (b := !true) rfl, up1_nat (by omega)]
      · refine qzx (T := []) .nil ((rLSv A B n (n : Int)).trans ?_)
        rw [bcF (decide_eq_false (by omega))]
    refine qyx (pre := [vS A, vS B]) (post := [vS A, vS B]) (T := []) .nil host ((cLSv A B n true).trans ?_) (lvOne_ok (x := loopLSv) Tryz.func16 (by kernel_rfl) fun K t => eAt_ok (outC_ok fun _ => lo) K t)
    rw [brF (by simp), chkT (qzt _), chkT rfl]; rfl
  · trivial
end
noncomputable abbrev loopLAv : Code := (qyu (bodyOf Tryz.f17)).headD .skip
section
variable (A B : List (List CV)) (n : Nat) (i : Int) (ok : Bool)
def sLAv (i : Int) : qzw := ⟨some (.vec 0 n) :: some (.vec 1 n) :: nn 3 ++ (some (.int .i64 i) :: nn 20), some (vA A) :: some (vA B) :: nn 64⟩
def sLAvX : qzw := ⟨nn 26, some (vA A) :: some (vA B) :: nn 64⟩
theorem rLAv : code (ent Tryz.prog [] nolv 64 1 20) Tryz.prog {} 2 64 1 loopLAv (sLAv A B n i) (endK 2 64 (fun n => hasN [0, 1, 5] n) (fun n => hasN [] n))
  = qyw (decide (i < (n : Int))) (chks (qyw (!eq3 (Sx.rowAt A i.toNat) (Sx.rowAt B i.toNat)) (some (.ret, sLAvX A B)) (some (.normal, sLAv A B n (up1 i)))) [ixN i n, inR i A, ixN i n, inR i B]) (some (.exit 0, sLAvX A B)) := by kernel_rfl
noncomputable def lvLAv : FuncId → Lv := lvOf 17 (fun _ => some [0, 1, 5]) (oneL 4 (eAt 2 (sLAv A B n 0) (outC ok (.exit 0) (sLAvX A B))))
theorem cLAv : Comes [] (lvLAv A B n ok) 17 [.vec 0 n, .vec 1 n] [vA A, vA B] (.br ((n : Int) != (n : Int)) (.ret (.bool false) [vA A, vA B]) (.chk (eqSt (sLAv A B n 0) (sLAv A B n 0)) (.chk ok (.ret (.bool true) [vA A, vA B])))) := by unfold Comes; kernel_rfl
theorem cLAv0 : Comes [] nolv 17 [.qzz, .qzz] [] (.ret (.bool true) []) := by unfold Comes; kernel_rfl
open Classical in
noncomputable def eLAv : Ent := fun args pre => match args, pre with
  | [.qzz, .qzz], [] => .ret (.bool true) []
  | [.vec i n, .vec j m], [.vecR sh A ty, .vecR sh' B ty'] => .chk (Nat.beq i 0 && Nat.beq j 1 && shEq sh shA && shEq sh' shA && Nat.beq ty 25 && Nat.beq ty' 25) (.chk (decide (SameA A B n m)) (.ret (.bool true) [.vecR sh A ty, .vecR sh' B ty']))
  | _, _ => .fail
open Classical in
theorem eLAv_ok : EntOK Tryz.prog 17 eLAv := fun args pre => by
  unfold eLAv
  split
  · exact qyx (pre := []) (post := []) (T := []) .nil host cLAv0 qyz
  · rename_i i n j m sh A ty sh' B ty'
    refine ⟨fun g0 => ⟨fun g1 => ?_, fun _ => trivial⟩, fun _ => trivial⟩
    simp only [Bool.and_eq_true, beqT, Bool.not_eq_true'] at g0
    obtain ⟨⟨⟨⟨⟨rfl, rfl⟩, g2⟩, g3⟩, rfl⟩, rfl⟩ := g0
    obtain rfl := shEq_of g2
    obtain rfl := shEq_of g3
    obtain ⟨rfl, h1, h2, h3, h4⟩ := of_decide_eq_true g1
    have lo : Tri Tryz.prog (.loop loopLAv) (sLAv A B n 0).toA (.exit 0) (sLAvX A B).toA 2 := by
      refine tri_up (body := loopLAv) (fun j => (sLAv A B n (j : Int)).toA) (fun e => by cases e) n (fun j hj => ?_) ?_ 0 (Nat.zero_le _)
      · refine qzx (T := []) .nil ((rLAv A B n (j : Int)).trans ?_)
        have ck : ∀ b ∈ [ixN (j : Int) n, inR (j : Int) A, ixN (j : Int) n, inR (j : Int) B], b = true := by
          intro b hb
          simp only [List.mem_cons, List.not_mem_nil, or_false] at hb
          rcases hb with rfl | rfl | rfl | rfl
          · exact ixN_nat hj
          · exact inR_nat (by omega)
          · exact ixN_nat hj
          · exact inR_nat (by omega)
        rw [bcT (decide_eq_true (by omega)), qzy ck, Int.toNat_natCast, h4 j hj, bcF (b := !true) rfl, up1_nat (by omega)]
      · refine qzx (T := []) .nil ((rLAv A B n (n : Int)).trans ?_)
        rw [bcF (decide_eq_false (by omega))]
    refine qyx (pre := [vA A, vA B]) (post := [vA A, vA B]) (T := []) .nil host ((cLAv A B n true).trans ?_) (lvOne_ok (x := loopLAv) Tryz.func17 (by kernel_rfl) fun K t => eAt_ok (outC_ok fun _ => lo) K t)
    rw [brF (by simp), chkT (qzt _), chkT rfl]; rfl
  · trivial
end
end Go.Proofs.YtphhepnldndbhaaGreatDoor.Dp
namespace Go.Proofs.YtphhepnldndbhaaGreatDoor.Dp
open Go Sx Go.Proofs.YtphhepnldndbhaaGreatDoor
noncomputable abbrev bTe : Code := bodyOf Tryz.f3
noncomputable def tTe : Tab := [(10, eAwk), (fB, eBk), (12, eSpl), (13, ePick)]
theorem tTe_ok : TabOK Tryz.prog tTe := .cons eAwk_ok (.cons eBk_ok (.cons eSpl_ok (.cons ePick_ok .nil)))
abbrev kT1 : Nat → Bool := fun n => hasN [2, 4, 9, 11, 13, 14, 15] n
def tl0 : List (Option PObj) := [some (oSh .qzz .qzz)]
def tlX (b : Nat) (X : List (List CV)) : List (Option PObj) := [some (oSh (.vec b X.length) .qzz), some (vC X)]
def tlY (b : Nat) (Y : List (List CV)) : List (Option PObj) := [some (oSh .qzz (.vec b Y.length)), some (vC Y)]
def tlB (b : Nat) (X Y : List (List CV)) : List (Option PObj) := [some (oSh (.vec b X.length) (.vec (b + 1) Y.length)), some (vC X), some (vC Y)]
section
variable (R Z S : List (List CV)) (a z n : Nat) (wh o0 o1 o2 o3 o4 a0 a1 a2 : Int)
def sT1 (x : AV) (k : Nat) (t tl : List (Option PObj)) : qzw := ⟨nn 2 ++ (some (.int .i64 wh) :: none :: some (.dsl 2 n) :: nn 4 ++ (some (.ptr 3 0) :: none :: some (.ptr 4 0) :: none :: some (.bool true) :: some (.ptr 5 0) :: some x :: nn 130)),
  [some (fA R), some (fZ Z), some (fSp S), some (oS5 o0 o1 o2 o3 o4), some (oA3 a0 a1 a2), some (oB4 (.slice k 0 2 2))] ++ (t ++ (tl ++ nn 64))⟩
open Classical in
noncomputable def owTe (tl : Nat → List (Option PObj)) : Option (Ex × qzw) := chks (qyw (isNil (spW R a Z z)) (some (.normal, sT1 R Z S n wh o0 o1 o2 o3 o4 a0 a1 a2 .qzz 6 [] (tl 7))) (some (.normal, sT1 R Z S n wh o0 o1 o2 o3 o4 a0 a1 a2 (.vec 6 (spW R a Z z).length) 7 [some (vS (spW R a Z z))] (tl 8)))) [decide (okA a R ∧ okZ z Z)]
open Classical in
noncomputable def hdTe : Option (Ex × qzw) := chks (qyw (isNil (bkX R a 0)) (qyw (isNil (bkX R a 1)) (owTe R Z S a z n wh o0 o1 o2 o3 o4 a0 a1 a2 fun _ => tl0) (owTe R Z S a z n wh o0 o1 o2 o3 o4 a0 a1 a2 (fun b => tlY b (bkX R a 1))))
  (qyw (isNil (bkX R a 1)) (owTe R Z S a z n wh o0 o1 o2 o3 o4 a0 a1 a2 (fun b => tlX b (bkX R a 0))) (owTe R Z S a z n wh o0 o1 o2 o3 o4 a0 a1 a2 (fun b => tlB b (bkX R a 0) (bkX R a 1))))) [decide (okA a R)]
open Classical in
theorem hd_tells : runsC (ent Tryz.prog tTe nolv 64 1 20) Tryz.prog {} 3 64 1 (endK 3 64 kT1 kT1) 4 bTe (startP 146 [.dsl 0 a, .dsl 1 z, .int .i64 wh, .agg [.int .i64 o0, .int .i64 o1, .int .i64 o2, .int .i64 o3, .int .i64 o4], .dsl 2 n, .agg [.int .i64 a0, .int .i64 a1, .int .i64 a2]] [fA R, fZ Z, fSp S] 64) = hdTe R Z S a z n wh o0 o1 o2 o3 o4 a0 a1 a2 := by kernel_rfl
end
end Go.Proofs.YtphhepnldndbhaaGreatDoor.Dp
