/- Layer 2, the document's own answers: references as texts. -/
import Derived.Test.YtanhlbdcjonaoaaGreatDoorRtR
import Derived.Test.YtanhlbdcjonaoaaGreatDoorGr14
import Derived.Test.YtanhlbdcjonaoaaGreatDoorGr07
set_option linter.unusedVariables false
set_option linter.unusedSimpArgs false
namespace Go.Proofs.YtanhlbdcjonaoaaGreatDoor
open Go Sx

def lnB (x y : List UInt8) : Bool := decide (x.length + y.length ≤ 9223372036854775807)
def rowT2 (okd : Int → Bool) (D : Int → List UInt8) (r : Int) (o : List UInt8) : Ans := .chk (okd (swA r)) (.chk (lnB o (D (swA r))) (.ret (.tuple [.str (o ++ D (swA r)), .int .i64 0]) []))
def colT2 (okc : Int → Bool) (C : Int → List UInt8) (okd : Int → Bool) (D : Int → List UInt8) (r c : Int) (a : Bool) (o : List UInt8) : Ans :=
  .chk (okc c) (.chk (lnB o (C c)) (.br a (.chk (lnB (o ++ C c) [36]) (rowT2 okd D r (o ++ C c ++ [36]))) (rowT2 okd D r (o ++ C c))))
def fixT2 (okc : Int → Bool) (C : Int → List UInt8) (okd : Int → Bool) (D : Int → List UInt8) (r c : Int) (a b : Bool) (o : List UInt8) : Ans :=
  .br b (.chk (lnB o [36]) (colT2 okc C okd D r c a (o ++ [36]))) (colT2 okc C okd D r c a o)
theorem textD_comes (F : Rf → Bool) (okp : List UInt8 → Bool) (P : List UInt8 → Bool) (Q : List UInt8 → List UInt8) (okc : Int → Bool) (C : Int → List UInt8) (E : Int → Int) (okd : Int → Bool) (D : Int → List UInt8) (s : List UInt8) (r c : Int) (a b d : Bool) :
    Comes (tabTx F okp P Q okc C E okd D) nolv 5 [.agg [.str s, .int .i64 r, .int .i64 c, .bool a, .bool b, .bool d]] []
  (.chk (decide (s.length ≤ 9223372036854775807)) (.br (!F ⟨s, r, c, a, b, d⟩) (.ret (.tuple [.str [], .int .i64 20]) []) (.br d (.ret (.tuple [.str [35, 82, 69, 70, 33], .int .i64 0]) [])
    (.br (!(s == [])) (.chk (okp s) (.br (P s) (.chk (lnB s [33]) (fixT2 okc C okd D r c a b (s ++ [33]))) (.chk (okp s) (.chk (lnB (Q s) [33]) (fixT2 okc C okd D r c a b (Q s ++ [33]))))))
      (fixT2 okc C okd D r c a b []))))) := by unfold Comes; kernel_rfl
end Go.Proofs.YtanhlbdcjonaoaaGreatDoor

/- Layer 2, the document's own answers: references as texts: the entry. -/
set_option linter.unusedVariables false
set_option linter.unusedSimpArgs false
namespace Go.Proofs.YtanhlbdcjonaoaaGreatDoor
open Go Sx

def quS (l : List UInt8) : List UInt8 := 39 :: (dblS l ++ [39])
theorem plainX_ok : EntOK Tryz.prog 27 (eStX okM plD) := fun args pre => by
  unfold eStX
  split
  · rename_i l; exact plainD_ok [.str l] []
  · trivial
theorem quotX_ok : EntOK Tryz.prog 8 (eQuX okM quS) := fun args pre => by
  unfold eQuX
  split
  · rename_i l; exact (ent_q ▸ quoted_ok) [.str l] []
  · trivial
theorem colX_ok : EntOK Tryz.prog 14 (eColX inI colC colE) := fun args pre => by
  unfold eColX
  split
  · rename_i n; exact columnD_ok [.int .i64 n] []
  · trivial
theorem tabTx_ok : TabOK Tryz.prog (tabTx rightB okM plD quS inI colC colE letN rowI) := .cons rightD_ok (.cons plainX_ok (.cons quotX_ok (.cons colX_ok (.cons digO_ok tab0_ok))))
theorem lnB_ok {x y : List UInt8} (h1 : x.length ≤ 1000000) (h2 : y.length ≤ 1000000) : lnB x y = true := decide_eq_true (by omega)
theorem colC_eq {c : Int} (h : 0 ≤ c ∧ c < 52) : colC c = colS c.toNat := by unfold colC; rw [show colB c = true from decide_eq_true h]; rfl
theorem fixT2_run {r c : Int} (a b : Bool) {o : List UInt8} (hr : 0 ≤ r ∧ r < 200) (hc : 0 ≤ c ∧ c < 52) (ho : o.length ≤ 1000) : (fixT2 inI colC letN rowI r c a b o).run pure2 = pure2 (.tuple [.str (o ++ bcond b [36] [] ++ colS c.toNat ++ bcond a [36] [] ++ rowS (r + 1).toNat), .int .i64 0]) [] := by
  have hk := col_len c.toNat
  have ht := row_len (r + 1).toNat
  have hw : swA r = r + 1 := by unfold swA; exact i64_in (by omega) (by omega)
  have hR : rowI (r + 1) = rowS (r + 1).toNat := rfl
  have row : ∀ {o : List UInt8}, o.length ≤ 2000 → (rowT2 letN rowI r o).run pure2 = pure2 (.tuple [.str (o ++ rowS (r + 1).toNat), .int .i64 0]) [] := fun {o} h => by
    unfold rowT2
    simp only [Ans.run, Ans.chk]
    rw [hw, hR, bcT (b := letN (r + 1)) (decide_eq_true (by omega)), bcT (b := lnB o _) (lnB_ok (by omega) (by omega))]
  have col : ∀ {o : List UInt8}, o.length ≤ 1500 → (colT2 inI colC letN rowI r c a o).run pure2 = pure2 (.tuple [.str (o ++ colS c.toNat ++ bcond a [36] [] ++ rowS (r + 1).toNat), .int .i64 0]) [] := fun {o} h => by
    unfold colT2
    simp only [Ans.run, Ans.chk]
    rw [colC_eq hc, bcT (b := inI c) (inI_iff.2 (by omega)), bcT (b := lnB o _) (lnB_ok (by omega) (by omega)), bcT (b := lnB (o ++ colS c.toNat) [36]) (lnB_ok (by rw [List.length_append]; omega) (by simp))]
    cases a with
    | true => exact row (by simp only [List.length_append, List.length_cons, List.length_nil]; omega)
    | false =>
      show (rowT2 letN rowI r (o ++ colS c.toNat)).run pure2 = _
      rw [row (by rw [List.length_append]; omega)]
      simp [bcond]
  unfold fixT2
  simp only [Ans.run, Ans.chk]
  rw [bcT (b := lnB o [36]) (lnB_ok (by omega) (by simp))]
  cases b with
  | true => exact col (by simp only [List.length_append, List.length_cons, List.length_nil]; omega)
  | false =>
    show (colT2 inI colC letN rowI r c a o).run pure2 = _
    rw [col (by omega)]
    simp [bcond]
theorem textD_ok : EntOK Tryz.prog 5 (entTxt txV txE) := fun args pre => by
  unfold entTxt
  split
  · rename_i s r c a b d
    refine of_run (ans_comes tabTx_ok (textD_comes rightB okM plD quS inI colC colE letN rowI s r c a b d)) fun x h => ?_
    obtain ⟨h1, h⟩ := chk_run h
    rw [← h]
    simp only [Ans.run, Ans.chk]
    rw [bcT h1]
    unfold txV txE
    cases hr : rightB ⟨s, r, c, a, b, d⟩ with
    | false => rfl
    | true =>
      cases d with
      | true => rfl
      | false =>
        have hb := right_bd hr rfl
        have hl := right_len hr
        simp only at hb hl
        rw [bcF (b := !true) rfl, bcF (b := false) rfl, bcT (b := true) rfl, bcT (b := true) rfl]
        show _ = pure2 (.tuple [.str (bcond (!(s == [])) (wriS s ++ [33]) [] ++ bcond b [36] [] ++ colS c.toNat ++ bcond a [36] [] ++ rowS (r + 1).toNat), .int .i64 0]) []
        cases hs : s == [] with
        | true =>
          rw [bcF (b := !true) rfl, bcF (b := !true) rfl]
          exact fixT2_run a b ⟨hb.1, hb.2.1⟩ ⟨hb.2.2.1, hb.2.2.2⟩ (by simp)
        | false =>
          have hp : plD s = plainF s s.length 0 := by unfold plD; rw [hs, plain_eq]; simp
          have hq : (quS s).length ≤ 100 := by
            have := dbl_len s
            unfold quS; simp only [List.length_cons, List.length_append, List.length_nil]; omega
          rw [bcT (b := !false) rfl, bcT (b := !false) rfl, bcT (b := okM s) (decide_eq_true (by omega)), bcT (b := lnB s [33]) (lnB_ok (by omega) (by simp)), bcT (b := okM s) (decide_eq_true (by omega)), bcT (b := lnB (quS s) [33]) (lnB_ok (by omega) (by simp)), hp]
          unfold wriS
          cases plainF s s.length 0 with
          | true => exact fixT2_run a b ⟨hb.1, hb.2.1⟩ ⟨hb.2.2.1, hb.2.2.2⟩ (by simp; omega)
          | false =>
            have := fixT2_run (o := quS s ++ [33]) a b ⟨hb.1, hb.2.1⟩ ⟨hb.2.2.1, hb.2.2.2⟩ (by simp; omega)
            rw [bcF (b := false) rfl, bcF (b := false) rfl, this]
            unfold quS
            simp
  · trivial
end Go.Proofs.YtanhlbdcjonaoaaGreatDoor

/- Layer 2, the law: a table of functions that are not looked into. -/
set_option linter.unusedVariables false
set_option linter.unusedSimpArgs false
namespace Go.Proofs.YtanhlbdcjonaoaaGreatDoor
open Go Sx

def entRdW (okl : List UInt8 → Bool) (G : List UInt8 → Rf) (g : List UInt8 → Int) : Ent := fun args pre => match args, pre with
  | [.str l], [] => .chk (okl l) (.ret (.tuple [(G l).v, .int .i64 (g l)]) [])
  | _, _ => .fail
def entTxW (ok : Rf → Bool) (W : Rf → List UInt8) (w : Rf → Int) : Ent := fun args pre => match args, pre with
  | [.agg [.str s, .int .i64 r, .int .i64 c, .bool a, .bool b, .bool d]], [] => .chk (ok ⟨s, r, c, a, b, d⟩) (.ret (.tuple [.str (W ⟨s, r, c, a, b, d⟩), .int .i64 (w ⟨s, r, c, a, b, d⟩)]) [])
  | _, _ => .fail
def entRiW (ok : Rf → Bool) (B : Rf → Bool) : Ent := fun args pre => match args, pre with
  | [.agg [.str s, .int .i64 r, .int .i64 c, .bool a, .bool b, .bool d]], [] => .chk (ok ⟨s, r, c, a, b, d⟩) (.ret (.bool (B ⟨s, r, c, a, b, d⟩)) [])
  | _, _ => .fail
def entMvW (ok : Rf → Int → Int → Bool) (V : Rf → Int → Int → Rf) (v : Rf → Int → Int → Int) : Ent := fun args pre => match args, pre with
  | [.agg [.str s, .int .i64 r, .int .i64 c, .bool a, .bool b, .bool d], .int .i64 m, .int .i64 n], [] =>
    .chk (ok ⟨s, r, c, a, b, d⟩ m n) (.ret (.tuple [(V ⟨s, r, c, a, b, d⟩ m n).v, .int .i64 (v ⟨s, r, c, a, b, d⟩ m n)]) [])
  | _, _ => .fail
def entArW (ok : Rf → Rf → Bool) (A : Rf → Rf → Int → Ar) (e : Rf → Rf → Int → Int) : Ent := fun args pre => match args, pre with
  | [.agg [.str s, .int .i64 r, .int .i64 c, .bool a, .bool b, .bool d], .agg [.str s2, .int .i64 r2, .int .i64 c2, .bool a2, .bool b2, .bool d2], .int .i64 n], [] =>
    .chk (ok ⟨s, r, c, a, b, d⟩ ⟨s2, r2, c2, a2, b2, d2⟩) (.ret (.tuple [(A ⟨s, r, c, a, b, d⟩ ⟨s2, r2, c2, a2, b2, d2⟩ n).v, .int .i64 (e ⟨s, r, c, a, b, d⟩ ⟨s2, r2, c2, a2, b2, d2⟩ n)]) [])
  | _, _ => .fail
def entRfW (ok : Rf → Bool) (F : Rf → Rf) : Ent := fun args pre => match args, pre with
  | [.agg [.str s, .int .i64 r, .int .i64 c, .bool a, .bool b, .bool d]], [] => .chk (ok ⟨s, r, c, a, b, d⟩) (.ret (F ⟨s, r, c, a, b, d⟩).v [])
  | _, _ => .fail
def entPk (ok : Int → Int → Bool) (p : Int → Int → Int) : Ent := fun args pre => match args, pre with
  | [.int .i64 a, .int .i64 n], [] => .chk (ok a n) (.ret (.int .i64 (p a n)) [])
  | _, _ => .fail
/-- The functions that the law calls. -/
structure LawF where
  F : Rf → Rf
  okF : Rf → Bool
  W : Rf → List UInt8
  w : Rf → Int
  okW : Rf → Bool
  G : List UInt8 → Rf
  g : List UInt8 → Int
  R : List UInt8 → Int × Int
  okl : List UInt8 → Bool
  C : Int → List UInt8
  E : Int → Int
  okc : Int → Bool
  B : Rf → Bool
  V : Rf → Int → Int → Rf
  v : Rf → Int → Int → Int
  okV : Rf → Int → Int → Bool
  A : Rf → Rf → Int → Ar
  e : Rf → Rf → Int → Int
  okA : Rf → Rf → Bool
  Q : List UInt8 → List UInt8
  p : Int → Int → Int
  okp : Int → Int → Bool
def tabLw (x : LawF) : Tab :=
  (4, eTrue) :: (6, entRfW x.okF x.F) :: (7, entPk x.okp x.p) ::
  (15, entTxW x.okW x.W x.w) :: (5, entTxW x.okW x.W x.w) ::
  (9, entRdW x.okl x.G x.g) :: (10, entRdW x.okl x.G x.g) ::
  (11, eRC x.okl x.R) :: (12, eRC x.okl x.R) ::
  (13, eColX x.okc x.C x.E) :: (14, eColX x.okc x.C x.E) ::
  (16, entRiW x.okW x.B) :: (17, entRiW x.okW x.B) ::
  (18, entMvW x.okV x.V x.v) :: (19, entMvW x.okV x.V x.v) ::
  (20, entArW x.okA x.A x.e) :: (21, entArW x.okA x.A x.e) ::
  (8, eQuX x.okl x.Q) :: (22, eAreas) :: (23, eRefArea) :: (24, eRefAt) :: tab0
end Go.Proofs.YtanhlbdcjonaoaaGreatDoor

/- Layer 2, the law: what it comes to, over functions that are not looked into. -/
set_option linter.unusedVariables false
set_option linter.unusedSimpArgs false
namespace Go.Proofs.YtanhlbdcjonaoaaGreatDoor
open Go Sx

def a60 (l : List UInt8) : Int := if 60 < (l.length : Int) then 60 else (l.length : Int)
def x1F (l : List UInt8) : List UInt8 := List.take ((a60 l).toNat - 0) (List.drop 0 l)
def sameR (X Y : Rf) : Bool := X.s == Y.s && (X.r == Y.r && (X.c == Y.c && (X.a == Y.a && (X.b == Y.b && (X.d == Y.d && true)))))
def cutB (k : Int) (t : List UInt8) : Bool := decide (0 ≤ k ∧ k.toNat ≤ t.length)
def hdC (k : Int) (t : List UInt8) : List UInt8 := List.take (k.toNat - 0) (List.drop 0 t)
def tlC (k : Int) (t : List UInt8) : List UInt8 := List.take (t.length - k.toNat) (List.drop k.toNat t)
def mn1 (l : List UInt8) : Int := if 1 < (l.length : Int) then 1 else (l.length : Int)
def mnL (k : Int) (t : List UInt8) : Int := if (t.length : Int) < swA k then (t.length : Int) else swA k
variable (x : LawF)
def oneU (u : List UInt8) (nx : Ans) : Ans := .chk (x.okl u) (.chk (x.okl u) (.chk (x.okl u) (.chk (x.okl u) (.br (!(sameR (x.G u) (x.G u))) noB (.br (x.g u != x.g u) noB (.br ((x.R u).1 != (x.R u).1) noB (.br ((x.R u).2 != (x.R u).2) noB nx)))))))
def oneC (m : Int) (nx : Ans) : Ans := .chk (x.okc m) (.chk (x.okc m) (.br (!(x.C m == x.C m)) noB (.br (x.E m != x.E m) noB nx)))
def oneM (r : Rf) (m n : Int) (nx : Ans) : Ans := .chk (x.okV r m n) (.chk (x.okV r m n) (.br (!(sameR (x.V r m n) (x.V r m n))) noB (.br (x.v r m n != x.v r m n) noB nx)))
def oneA (r q : Rf) (n : Int) (nx : Ans) : Ans := .chk (x.okp n 9) (.chk (x.okA r q) (.chk (x.okp n 9) (.chk (x.okA r q) (.br (!(sameA (x.A r q (x.p n 9)) (x.A r q (x.p n 9)))) noB (.br (x.e r q (x.p n 9) != x.e r q (x.p n 9)) noB nx)))))
def oneF (r Y : Rf) (n m q : Int) (nx : Ans) : Ans :=
  .chk (x.okW r) (.chk (x.okW r) (.chk (x.okW r) (.chk (x.okW r) (.br (!(x.B r == x.B r)) noB (.br (!(x.W r == x.W r)) noB (.br (x.w r != x.w r) noB
    (.chk (x.okp m 21) (.chk (x.okp q 21) (oneM x r m q (oneM x r (w64 (x.p m 21 - 10)) (w64 (x.p q 21 - 10)) (.chk (x.okF Y) (oneA x r Y n (oneA x r (x.F Y) n nx)))))))))))))
def lastT (a b : Ar) (p0 p1 p2 : Int) : Ans :=
  .chk (a.inB && b.inB) (.chk a.inB (.chk b.inB (.chk (inI p0 && inI p1 && inI p2) (.chk ((areaS a).inB && (areaS b).inB) (.chk a.inB (.chk ((areaS a).inB && b.inB) (.ret (.bool true) [])))))))
def tellT (X Y : Rf) (a b : Ar) (p0 p1 p2 : Int) (s t : List UInt8) (k n m q : Int) : Ans :=
  .chk (cutB k t) (.chk (cutB (mn1 (x1F s)) (x1F s)) (.chk (lnB (hdC k t) (hdC (mn1 (x1F s)) (x1F s))) (.chk (cutB (mnL k t) t) (.chk (lnB (hdC k t ++ hdC (mn1 (x1F s)) (x1F s)) (tlC (mnL k t) t))
    (.chk (cutB k t) (.chk (cutB (mnL k t) t) (.chk (lnB (hdC k t) (tlC (mnL k t) t)) (.chk (x.okl (x1F s)) (.chk (lnB (x.Q (x1F s)) [33, 65, 49])
      (oneU x (x1F s) (oneU x t (oneU x (hdC k t ++ hdC (mn1 (x1F s)) (x1F s) ++ tlC (mnL k t) t) (oneU x (hdC k t ++ tlC (mnL k t) t) (oneU x (x.Q (x1F s) ++ [33, 65, 49])
        (.chk (x.okp n 60) (oneC x n (oneC x (w64 (x.p n 60 - 4)) (.chk (x.okF X) (oneF x X Y n m q (oneF x (x.F X) Y n m q (lastT a b p0 p1 p2)))))))))))))))))))))
end Go.Proofs.YtanhlbdcjonaoaaGreatDoor

/- The evaluator, part J: a function in many parts. -/
set_option linter.unusedVariables false
set_option linter.unusedSimpArgs false
namespace Go.Proofs.YtanhlbdcjonaoaaGreatDoor.Sx
open Go
variable {P : Program} {R : Type}

/-- What a piece of code comes to, up to the function's end. -/
def GoesTo (P : Program) (fn : Func) (pre : List PObj) (k : AV → List PObj → Option R) (c : Code) (s : PState) (r : R) : Prop :=
  ∃ ex s', Tri P c s.toA ex s'.toA pre.length ∧ finP P fn pre.length pre k ex s' = some r

theorem goes_code {H : Hd R} (hH : HOK P H) {lv : Lv} {NF m : Nat} {fn : Func} {pre : List PObj} {k : AV → List PObj → Option R} {c : Code} (hl : LoopsOK P lv pre.length c) {s : PState} {r : R} (h : code H P lv pre.length NF m c s (finP P fn pre.length pre k) = some r) : GoesTo P fn pre k c s r := by
  obtain ⟨ex, s', t, hk⟩ := code_sound hH c hl s _ r h
  exact ⟨ex, s', t, hk⟩

theorem goes_cut {H : Hd (Ex × PState)} (hH : HOK P H) {lv : Lv} {NF m n : Nat} {fn : Func} {pre : List PObj} {k : AV → List PObj → Option R} {c : Code} {kn kx : Nat → Bool} (hl : LoopsOK P lv pre.length c) {s st : PState} {r : R}
    (h1 : runsC H P lv pre.length NF m (endK pre.length NF kn kx) n c s = some (.normal, st)) (h2 : GoesTo P fn pre k (restC n c) st r) : GoesTo P fn pre k c s r := by
  obtain ⟨ex2, s2, t2, hk2⟩ := h2
  rcases runsC_sound hH n c hl s h1 with ⟨ex1, s1, hne, t1, hk⟩ | ⟨s1, t1, hk⟩
  · exfalso
    cases ex1 with
    | normal => exact hne rfl
    | exit id => simp [endK] at hk
    | ret => simp [endK] at hk
  · simp only [endK, Option.map_eq_some_iff, Prod.mk.injEq] at hk
    obtain ⟨t, hc, _, rfl⟩ := hk
    exact ⟨ex2, s2, t1 _ _ (Tri.preRen hc t2), hk2⟩

theorem goes_meets (hn : ∀ (f : Nat) (fn : Func), P.funcs[f]? = some fn → (fn.name == "runtime.NumGoroutine") = false) {f : FuncId} {fn : Func} {body : Code} {args : List AV} {pre : List PObj} {NF : Nat} {k : AV → List PObj → Option R} {r : R}
    (hf : P.funcs[f]? = some fn) (hb : fn.body = some body) (h : GoesTo P fn pre k body (startP fn.ntmps args pre NF) r) : ∃ res post, Meets P f args (pre.map PObj.toA) res (post.map PObj.toA) ∧ k res post = some r := by
  obtain ⟨ex, s', t, hk⟩ := h
  exact fin_sound hf hb (hn f fn hf) t hk

theorem restC_add : ∀ (a b : Nat) (c : Code), restC b (restC a c) = restC (a + b) c
  | 0, b, c => by rw [Nat.zero_add]; cases c <;> rfl
  | a + 1, b, .seq x y => by rw [show a + 1 + b = (a + b) + 1 by omega]; exact restC_add a b y
  | a + 1, b, .skip => by rw [show a + 1 + b = (a + b) + 1 by omega]; cases b <;> rfl
  | a + 1, b, .region _ _ _ => by rw [show a + 1 + b = (a + b) + 1 by omega]; cases b <;> rfl
  | a + 1, b, .cond _ _ _ => by rw [show a + 1 + b = (a + b) + 1 by omega]; cases b <;> rfl
  | a + 1, b, .block _ _ => by rw [show a + 1 + b = (a + b) + 1 by omega]; cases b <;> rfl
  | a + 1, b, .loop _ => by rw [show a + 1 + b = (a + b) + 1 by omega]; cases b <;> rfl
  | a + 1, b, .rangeFunc _ _ _ _ => by rw [show a + 1 + b = (a + b) + 1 by omega]; cases b <;> rfl
  | a + 1, b, .exit _ => by rw [show a + 1 + b = (a + b) + 1 by omega]; cases b <;> rfl
  | a + 1, b, .scope _ => by rw [show a + 1 + b = (a + b) + 1 by omega]; cases b <;> rfl
  | a + 1, b, .label _ => by rw [show a + 1 + b = (a + b) + 1 by omega]; cases b <;> rfl
  | a + 1, b, .goto _ => by rw [show a + 1 + b = (a + b) + 1 by omega]; cases b <;> rfl
  | a + 1, b, .ret => by rw [show a + 1 + b = (a + b) + 1 by omega]; cases b <;> rfl
  | a + 1, b, .refuse _ => by rw [show a + 1 + b = (a + b) + 1 by omega]; cases b <;> rfl

end Go.Proofs.YtanhlbdcjonaoaaGreatDoor.Sx

/- Layer 2, the law in parts: its states. -/
set_option linter.unusedVariables false
set_option linter.unusedSimpArgs false
namespace Go.Proofs.YtanhlbdcjonaoaaGreatDoor
open Go Sx

def objR2 (X : Rf) : PObj := .raw (.cells [.str X.s, .int .i64 X.r, .int .i64 X.c, .bool X.a, .bool X.b, .bool X.d] 23)
def objA2 (a : Ar) : PObj := .raw (.cells [.int .i64 a.s, .int .i64 a.r, .int .i64 a.c, .int .i64 a.h, .int .i64 a.w] 25)
def objP2 (p0 p1 p2 : Int) : PObj := .raw (.cells [.int .i64 p0, .int .i64 p1, .int .i64 p2] 27)
/-- Between two statements: the boxes, the numbers, and what the examples told. -/
def stL (X Y : Rf) (a b : Ar) (p0 p1 p2 n m q : Int) : PState :=
  ⟨List.replicate 6 none ++ (some (.int .i64 n) :: some (.int .i64 m) :: some (.int .i64 q) :: some (.ptr 0 0) :: some (.ptr 1 0) :: some (.ptr 2 0) :: some (.ptr 3 0) :: some (.ptr 4 0) :: none :: none :: none :: none :: none :: some (.bool true) :: List.replicate 297 none),
   some (objR2 X) :: some (objR2 Y) :: some (objA2 a) :: some (objA2 b) :: some (objP2 p0 p1 p2) :: List.replicate 64 none⟩
def finL : PState := ⟨List.replicate 18 none ++ (some (.bool false) :: List.replicate 298 none), List.replicate 64 none⟩
abbrev OX := Option (Ex × PState)
def retL : OX := some (.ret, finL)
def ckX (b : Bool) (x : OX) : OX := bcond b x none
abbrev keepL : Nat → Bool := fun n => hasN [6,7,8,9,10,11,12,13,19] n
abbrev keepR : Nat → Bool := fun n => hasN [18] n
def preX (x : LawF) (s t : List UInt8) (k : Int) (nx : OX) : OX :=
  ckX (cutB k t) (ckX (cutB (mn1 (x1F s)) (x1F s)) (ckX (lnB (hdC k t) (hdC (mn1 (x1F s)) (x1F s))) (ckX (cutB (mnL k t) t) (ckX (lnB (hdC k t ++ hdC (mn1 (x1F s)) (x1F s)) (tlC (mnL k t) t))
    (ckX (cutB k t) (ckX (cutB (mnL k t) t) (ckX (lnB (hdC k t) (tlC (mnL k t) t)) (ckX (x.okl (x1F s)) (ckX (lnB (x.Q (x1F s)) [33, 65, 49]) nx)))))))))
def oneX (x : LawF) (u : List UInt8) (nx : OX) : OX := ckX (x.okl u) (ckX (x.okl u) (ckX (x.okl u) (ckX (x.okl u) (bcond (!(sameR (x.G u) (x.G u))) retL (bcond (x.g u != x.g u) retL (bcond ((x.R u).1 != (x.R u).1) retL (bcond ((x.R u).2 != (x.R u).2) retL nx)))))))
def txtsX (x : LawF) (s t : List UInt8) (k : Int) (nx : OX) : OX := oneX x (x1F s) (oneX x t (oneX x (hdC k t ++ hdC (mn1 (x1F s)) (x1F s) ++ tlC (mnL k t) t) (oneX x (hdC k t ++ tlC (mnL k t) t) (oneX x (x.Q (x1F s) ++ [33, 65, 49]) nx))))
abbrev argsL (X Y : Rf) (a b : Ar) (p0 p1 p2 : Int) (s : List UInt8) (n m q : Int) : List AV := [X.v, Y.v, a.v, b.v, .agg [.int .i64 p0, .int .i64 p1, .int .i64 p2], .str s, .int .i64 n, .int .i64 m, .int .i64 q]
end Go.Proofs.YtanhlbdcjonaoaaGreatDoor
