/- The document's rounding of a quotient to a decimal. -/
import Derived.Test.YtdomenmfkbfakaaGreatDoorGr08
import Derived.Test.YtdomenmfkbfakaaGreatDoorGr07
set_option linter.unusedVariables false
set_option linter.unusedSimpArgs false
namespace Go.Proofs.YtdomenmfkbfakaaGreatDoor
open Go Sx Rf Dc Rr Dq
def nearDo (b : Bool) : Option (Nat × Int) → Int × Int
  | none => (0, 0)
  | some (q, e) => (sgn b (trimmedS q e).1, (trimmedS q e).2)
def nearXo : Option (Nat × Int) → Int
  | none => 10
  | some _ => 0
def nearD (b : Bool) (N M : Nat) : Int × Int := nearDo b (nearG N M 19 0)
def nearX (N M : Nat) : Int := nearXo (nearG N M 19 0)
theorem trimD_le : ∀ (n : Nat) (m e : Int), ((trimD n m e).1.natAbs ≤ m.natAbs)
  | 0, m, e => by simp [trimD]
  | n + 1, m, e => by
    rw [trimD]
    split
    · have ih := trimD_le n (m.tdiv 10) (e + 1)
      have h : (m.tdiv 10).natAbs ≤ m.natAbs := by rw [Int.natAbs_tdiv]; exact Nat.div_le_self _ _
      omega
    · simp only []; omega
theorem low_le (m e : Int) : (trimmedS m e).1.natAbs ≤ m.natAbs := by
  unfold trimmedS
  split
  · simp
  · exact trimD_le _ _ _
noncomputable abbrev loopNr : Code := (loopBodies (bodyOf Tryz.f81)).headD .skip
def tabNr (x : NumF) : Tab := [(85, gT x), (82, gE x 0), (83, gL x), (114, gD x 0), (113, gBy x), (115, gA x), (116, gO x), (117, gV x)]
def nrS (b : Bool) (l l1 : List Int) (k k1 : Nat) (e : Int) : PState := ⟨some (.bool b) :: some (.dsl 0 k) :: some (.dsl 1 k1) :: none :: none :: none :: some (.ptr 2 0) :: some (.int .i64 0) :: some (.int .i64 e) :: List.replicate 56 none, some (.flatI false l) :: some (.flatI false l1) :: some (.raw (.cells [.int .i64 0, .int .i64 0] 23)) :: List.replicate 64 none⟩
def nrF (l l1 : List Int) (t : Int × Int) : PState := ⟨none :: none :: none :: none :: none :: none :: some (.ptr 2 0) :: some (.int .i64 0) :: List.replicate 57 none, some (.flatI false l) :: some (.flatI false l1) :: some (.raw (.cells [.int .i64 t.1, .int .i64 t.2] 23)) :: List.replicate 64 none⟩
def wrN (a : Int) : Int := IntKind.i64.wrap a
abbrev kN : Nat → Bool := fun n => hasN [0, 1, 2, 6, 7, 8] n
abbrev kNx : Nat → Bool := fun n => hasN [6, 7] n
def ck2 {α : Type} (b : Bool) (y : Option α) : Option α := bcond b y none
def finQ (x : NumF) (b : Bool) (l l1 : List Int) (k k1 : Nat) (e : Int) (u : List Int) (ku : Nat) : OX :=
  ck2 (x.okE 0 999999999999999 0) (ck2 (x.okL (x.E 0 999999999999999 0) (x.kE 0 999999999999999 0) u ku) (bcond (x.L (x.E 0 999999999999999 0) (x.kE 0 999999999999999 0) u ku) (some (.normal, nrS b l l1 k k1 (wrN (e + 1))))
    (ck2 (x.okV u ku) (ck2 (x.okO (x.V u ku) e) (bcond b (some (.ret, nrF l l1 (wrN (0 - (x.O (x.V u ku) e).1), (x.O (x.V u ku) e).2))) (some (.ret, nrF l l1 ((x.O (x.V u ku) e).1, (x.O (x.V u ku) e).2))))))))
def upQ (x : NumF) (b : Bool) (l l1 : List Int) (k k1 : Nat) (e : Int) (q : List Int) (kq : Nat) : OX := ck2 (x.okD 0 q kq [1] 1) (finQ x b l l1 k k1 e (x.D 0 q kq [1] 1) (x.kD 0 q kq [1] 1))
def rndQ (x : NumF) (b : Bool) (l l1 : List Int) (k k1 : Nat) (e : Int) (d : List Int) (kd : Nat) (q : List Int) (kq : Nat) (t : List Int) (kt : Nat) : OX :=
  ck2 (x.okL d kd t kt) (bcond (x.L d kd t kt) (upQ x b l l1 k k1 e q kq) (ck2 (x.okL t kt d kd) (bcond (!(x.L t kt d kd)) (ck2 (x.okA q kq 0) (bcond ((x.A q kq 0).tmod 2 == 1) (upQ x b l l1 k k1 e q kq) (finQ x b l l1 k k1 e q kq))) (finQ x b l l1 k k1 e q kq))))
def divQ (x : NumF) (b : Bool) (l l1 : List Int) (k k1 : Nat) (e : Int) (n : List Int) (kn : Nat) (d : List Int) (kd : Nat) : OX :=
  ck2 (x.okD 3 n kn d kd) (ck2 (x.okD 0 (x.D 4 n kn d kd) (x.kD 4 n kn d kd) (x.D 4 n kn d kd) (x.kD 4 n kn d kd)) (rndQ x b l l1 k k1 e d kd (x.D 3 n kn d kd) (x.kD 3 n kn d kd)
    (x.D 0 (x.D 4 n kn d kd) (x.kD 4 n kn d kd) (x.D 4 n kn d kd) (x.kD 4 n kn d kd)) (x.kD 0 (x.D 4 n kn d kd) (x.kD 4 n kn d kd) (x.D 4 n kn d kd) (x.kD 4 n kn d kd))))
theorem roundN (x : NumF) (b : Bool) (l l1 : List Int) (k k1 : Nat) (e : Int) : code (ent (R := Ex × PState) Tryz.prog (tabNr x) nolv 64 18446744073709551616 30) Tryz.prog {} 2 64 18446744073709551616 loopNr (nrS b l l1 k k1 e) (endK 2 64 kN kNx) =
    bcond (decide (e ≤ 9)) (ck2 (x.okT l1 k1 e) (ck2 (x.okT l k (wrN (0 - e))) (divQ x b l l1 k k1 e (x.T l k (wrN (0 - e))) (x.kT l k (wrN (0 - e))) (x.T l1 k1 e) (x.kT l1 k1 e)))) (some (.exit 0, nrF l l1 (0, 0))) := by kernel_rfl
variable {NR : Bool → Nat → Nat → Int × Int × Int}

theorem finQ_dg {b : Bool} {N M : Nat} {e : Int} {u : Nat} (hu : nd u ≤ 200000) (he : -9 ≤ e ∧ e ≤ 9) : finQ (numF NR) b (dg N) (dg M) (nd N) (nd M) e (dg u) (nd u) =
    if u ≤ 999999999999999 then some (.ret, nrF (dg N) (dg M) (nearDo b (some (u, e)))) else some (.normal, nrS b (dg N) (dg M) (nd N) (nd M) (e + 1)) := by
  obtain ⟨C, hC, hv⟩ : ∃ C, (999999999999999 : Int).natAbs = C ∧ C = 999999999999999 := ⟨_, rfl, rfl⟩
  have c1 : nd C ≤ 20 := nd_small (by omega)
  unfold finQ ck2
  rw [bcT (okE0 (by decide)), E0, kE0, hC, bcT (okL_dg (by omega) hu), L_dg]
  by_cases h : u ≤ 999999999999999
  · have hl := low_le (u : Int) e
    have w : wrN (0 - (trimmedS (u : Int) e).1) = -(trimmedS (u : Int) e).1 := by unfold wrN; rw [i64_in (by omega) (by omega)]; omega
    rw [bcF (b := decide _) (decide_eq_false (by omega)), if_pos h, bcT (okV_dg hu (by omega)), V_dg, bcT (okO_of ⟨by omega, by omega⟩), O_eq, w]
    cases b <;> rfl
  · have w : wrN (e + 1) = e + 1 := by unfold wrN; rw [i64_in (by omega) (by omega)]
    rw [bcT (b := decide _) (decide_eq_true (by omega)), if_neg h, w]
theorem divQ_dg {b : Bool} {N M : Nat} {e : Int} {n d : Nat} (hn : nd n ≤ 150000) (hd : nd d ≤ 150000) (h0 : 0 < d) (he : -9 ≤ e ∧ e ≤ 9) : divQ (numF NR) b (dg N) (dg M) (nd N) (nd M) e (dg n) (nd n) (dg d) (nd d) =
    if rndE n d ≤ 999999999999999 then some (.ret, nrF (dg N) (dg M) (nearDo b (some (rndE n d, e)))) else some (.normal, nrS b (dg N) (dg M) (nd N) (nd M) (e + 1)) := by
  have q1 : nd (n / d) ≤ nd n := nd_mono (Nat.div_le_self n d)
  have r1 : nd (n % d) ≤ nd d := nd_mono (Nat.le_of_lt (Nat.mod_lt n h0))
  have t1 := nd_add (a := n % d) (b := n % d)
  have u1 := nd_add (a := n / d) (b := 1)
  rw [nd_one] at u1
  have up : upQ (numF NR) b (dg N) (dg M) (nd N) (nd M) e (dg (n / d)) (nd (n / d)) = if n / d + 1 ≤ 999999999999999 then some (.ret, nrF (dg N) (dg M) (nearDo b (some (n / d + 1, e)))) else some (.normal, nrS b (dg N) (dg M) (nd N) (nd M) (e + 1)) := by
    unfold upQ ck2
    rw [bcT (okD1 (by omega)), D1, kD1]
    exact finQ_dg (by omega) he
  have fin := finQ_dg (NR := NR) (b := b) (N := N) (M := M) (u := n / d) (by omega) he
  have a3 : (numF NR).D 3 (dg n) (nd n) (dg d) (nd d) = dg (n / d) := D_dg
  have a4 : (numF NR).D 4 (dg n) (nd n) (dg d) (nd d) = dg (n % d) := D_dg
  have b3 : (numF NR).kD 3 (dg n) (nd n) (dg d) (nd d) = nd (n / d) := kD_dg
  have b4 : (numF NR).kD 4 (dg n) (nd n) (dg d) (nd d) = nd (n % d) := kD_dg
  have a0 : (numF NR).D 0 (dg (n % d)) (nd (n % d)) (dg (n % d)) (nd (n % d)) = dg (n % d + n % d) := D_dg
  have b0 : (numF NR).kD 0 (dg (n % d)) (nd (n % d)) (dg (n % d)) (nd (n % d)) = nd (n % d + n % d) := kD_dg
  unfold divQ ck2
  rw [bcT (okD_dg (o := 3) (by omega) (by omega) (decide_eq_true ⟨h0, by omega, by omega⟩)), a3, a4, b3, b4, bcT (okD_dg (o := 0) (by omega) (by omega) rfl), a0, b0]
  unfold rndQ ck2
  rw [bcT (okL_dg (by omega) (by omega)), L_dg, up, fin]
  by_cases c1 : d < n % d + n % d
  · rw [bcT (decide_eq_true c1), rnd_up (.inl c1)]
  · rw [bcF (decide_eq_false c1), bcT (okL_dg (by omega) (by omega)), L_dg]
    by_cases c2 : n % d + n % d < d
    · rw [bcF (b := !_) (by rw [decide_eq_true c2]; rfl), rnd_dn (fun h => h.elim c1 fun k => k.1 c2)]
    · rw [bcT (b := !_) (by rw [decide_eq_false c2]; rfl), bcT (okA_dg (by omega) (by omega)), A_dg]
      have ev : (((n / d / 10 ^ (0 : Int).toNat % 10 : Nat) : Int).tmod 2 == 1) = decide (n / d / 10 ^ 0 % 10 % 2 = 1) := by
        rw [show (0 : Int).toNat = 0 from rfl, Bool.eq_iff_iff, beq_iff_eq, decide_eq_true_eq, Int.tmod_eq_emod_of_nonneg (by omega)]
        omega
      rw [ev]
      by_cases c3 : n / d / 10 ^ 0 % 10 % 2 = 1
      · rw [bcT (decide_eq_true c3), rnd_up (.inr ⟨c2, c3⟩)]
      · rw [bcF (decide_eq_false c3), rnd_dn (fun h => h.elim c1 fun k => c3 k.2)]
theorem round_dg {b : Bool} {N M : Nat} {e : Int} (hN : nd N < 100000) (hM : nd M < 100000) (hM0 : 0 < M) (he : -9 ≤ e ∧ e ≤ 9) : code (ent (R := Ex × PState) Tryz.prog (tabNr (numF NR)) nolv 64 18446744073709551616 30) Tryz.prog {} 2 64 18446744073709551616 loopNr (nrS b (dg N) (dg M) (nd N) (nd M) e) (endK 2 64 kN kNx) =
    if rndE (nE N e) (dE M e) ≤ 999999999999999 then some (.ret, nrF (dg N) (dg M) (nearDo b (some (rndE (nE N e) (dE M e), e)))) else some (.normal, nrS b (dg N) (dg M) (nd N) (nd M) (e + 1)) := by
  have w : wrN (0 - e) = -e := by unfold wrN; rw [i64_in (by omega) (by omega)]; omega
  have n1 := nd_pow (x := N) (k := (-e).toNat)
  have d1 := nd_pow (x := M) (k := e.toNat)
  rw [roundN, bcT (decide_eq_true he.2), w]
  unfold ck2
  rw [bcT (okT_dg (by omega) (by omega)), bcT (okT_dg (by omega) (by omega)), T_dg, T_dg, kT_dg, kT_dg]
  exact divQ_dg (by omega) (by omega) (Nat.mul_pos hM0 (Nat.pow_pos (by decide))) he
theorem tabNr_ok : TabOK Tryz.prog (tabNr (numF NR)) := .cons gT_ok (.cons g42_ok (.cons gL_ok (.cons (gD_ok fun a b ha hb _ => plus_meets a b (by omega) (by omega)) (.cons gBy_ok (.cons gA_ok (.cons gO_ok (.cons gV_ok .nil)))))))
def exO : Option (Nat × Int) → Ex
  | none => .exit 0
  | some _ => .ret
theorem loopN_dg (b : Bool) (N M : Nat) (hN : nd N < 100000) (hM : nd M < 100000) (hM0 : 0 < M) (o : Option (Nat × Int)) (h : nearG N M 19 0 = o) :
    Tri Tryz.prog (.loop loopNr) (nrS b (dg N) (dg M) (nd N) (nd M) (-9)).toA (exO o) (nrF (dg N) (dg M) (nearDo b o)).toA 2 := by
  refine loop_rounds (P := Tryz.prog) (H := ent (R := Ex × PState) Tryz.prog (tabNr (numF fun _ _ _ => (0, 0, 0))) nolv 64 18446744073709551616 30) (ι := { q : Nat × Nat // q.1 + q.2 = 19 ∧ nearG N M q.1 q.2 = o }) (NF := 64) (m := 18446744073709551616) (lv := {}) (ent_sound (tabNr_ok (NR := fun _ _ _ => (0, 0, 0))) host nolv_ok 30) (x := loopNr) (K := 2) (fun x hx id e h1 h2 => by cases h2) kN kNx (fun q => nrS b (dg N) (dg M) (nd N) (nd M) ((q.1.2 : Int) - 9)) (fun q => q.1.1) (fun _ => (exO o, nrF (dg N) (dg M) (nearDo b o))) ?_ (fun _ => by cases o <;> simp [exO]) ⟨(19, 0), rfl, h⟩
  rintro ⟨⟨n, j⟩, hj, h⟩
  simp only at hj h ⊢
  cases n with
  | zero =>
    right
    have : o = none := h.symm
    subst this
    rw [roundN, bcF (decide_eq_false (by omega))]; rfl
  | succ n =>
    rw [round_dg hN hM hM0 (by omega)]
    rw [nearG] at h
    by_cases c : rndE (nE N ((j : Int) - 9)) (dE M ((j : Int) - 9)) ≤ 999999999999999
    · rw [if_pos c] at h ⊢
      right; subst h; rfl
    · rw [if_neg c] at h ⊢
      exact .inl ⟨⟨(n, j + 1), by simp only; omega, h⟩, Nat.lt_succ_self n, trivial, by rw [show (j : Int) - 9 + 1 = ((j + 1 : Nat) : Int) - 9 by omega]⟩
noncomputable def aN (b : Bool) (N M : Nat) (o : Option (Nat × Int)) (ex : Ex) (t : Int × Int) : LAns := .chk (clB (nd N < 100000 ∧ nd M < 100000 ∧ 0 < M ∧ nearG N M 19 0 = o ∧ ex = exO o ∧ t = nearDo b o)) (.out ex (nrF (dg N) (dg M) t))
theorem aN_ok (b : Bool) (N M : Nat) (o : Option (Nat × Int)) (ex : Ex) (t : Int × Int) : LAnsOK Tryz.prog loopNr 2 (nrS b (dg N) (dg M) (nd N) (nd M) (-9)) (aN b N M o ex t) := ⟨fun g => by
  obtain ⟨h1, h2, h3, h4, rfl, rfl⟩ := clB_of g
  exact loopN_dg b N M h1 h2 h3 o h4, fun _ => trivial⟩
noncomputable def lvN (b : Bool) (N M : Nat) (o : Option (Nat × Int)) (ex : Ex) (t : Int × Int) : FuncId → Lv := lvOf 81 (fun _ => some [0, 1, 2, 6, 7, 8]) (oneL 2 (eAt 2 (nrS b (dg N) (dg M) (nd N) (nd M) (-9)) (aN b N M o ex t)))
theorem lvN_ok (b : Bool) (N M : Nat) (o : Option (Nat × Int)) (ex : Ex) (t : Int × Int) : LvOK Tryz.prog (lvN b N M o ex t) := lvOne_ok (x := loopNr) Tryz.func81 (by kernel_rfl) fun K u => eAt_ok (aN_ok b N M o ex t) K u
theorem near_none (b : Bool) (N M : Nat) (o : Option (Nat × Int)) (t : Int × Int) : Comes [] (lvN b N M o (.exit 0) t) 81 [.bool b, .dsl 0 (nd N), .dsl 1 (nd M)] (two N M)
  (.chk (eqSt (nrS b (dg N) (dg M) (nd N) (nd M) (-9)) (nrS b (dg N) (dg M) (nd N) (nd M) (-9))) (.chk (clB (nd N < 100000 ∧ nd M < 100000 ∧ 0 < M ∧ nearG N M 19 0 = o ∧ Ex.exit 0 = exO o ∧ t = nearDo b o)) (.ret (R3 (0, 0, 10)) (two N M)))) := by unfold Comes; kernel_rfl
theorem near_some (b : Bool) (N M : Nat) (o : Option (Nat × Int)) (t : Int × Int) : Comes [] (lvN b N M o .ret t) 81 [.bool b, .dsl 0 (nd N), .dsl 1 (nd M)] (two N M)
  (.chk (eqSt (nrS b (dg N) (dg M) (nd N) (nd M) (-9)) (nrS b (dg N) (dg M) (nd N) (nd M) (-9))) (.chk (clB (nd N < 100000 ∧ nd M < 100000 ∧ 0 < M ∧ nearG N M 19 0 = o ∧ Ex.ret = exO o ∧ t = nearDo b o)) (.ret (R3 (t.1, t.2, 0)) (two N M)))) := by unfold Comes; kernel_rfl
theorem near_core (b : Bool) (N M : Nat) (hN : nd N < 100000) (hM : nd M < 100000) (hM0 : 0 < M) (o : Option (Nat × Int)) (h : nearG N M 19 0 = o) :
    Meets Tryz.prog 81 [.bool b, .dsl 0 (nd N), .dsl 1 (nd M)] [FL N, FL M] (R3 ((nearDo b o).1, (nearDo b o).2, nearXo o)) [FL N, FL M] := by
  cases o with
  | none => exact meets_ent (T := []) (pre := two N M) (post := two N M) .nil host ((near_none b N M none (nearDo b none)).trans (by rw [chkT (eqSt_refl _), chkT (clB_to ⟨hN, hM, hM0, h, rfl, rfl⟩)]; rfl)) (lvN_ok _ _ _ _ _ _)
  | some p => exact meets_ent (T := []) (pre := two N M) (post := two N M) .nil host ((near_some b N M (some p) (nearDo b (some p))).trans (by rw [chkT (eqSt_refl _), chkT (clB_to ⟨hN, hM, hM0, h, rfl, rfl⟩)]; rfl)) (lvN_ok _ _ _ _ _ _)
def nrR (b : Bool) (N M : Nat) : Int × Int × Int := ((nearD b N M).1, (nearD b N M).2, nearX N M)
theorem nrR_ok (b : Bool) (N M : Nat) (hN : nd N < 100000) (hM : nd M < 100000) (h0 : 0 < M) : Meets Tryz.prog 81 [.bool b, .dsl 0 (nd N), .dsl 1 (nd M)] [FL N, FL M] (R3 (nrR b N M)) [FL N, FL M] := by
  unfold nrR nearD nearX
  exact near_core b N M hN hM h0 _ rfl
end Go.Proofs.YtdomenmfkbfakaaGreatDoor

/- The document's decimals: which are right, of whole numbers, quotients. -/
set_option linter.unusedVariables false
set_option linter.unusedSimpArgs false
namespace Go.Proofs.YtdomenmfkbfakaaGreatDoor
open Go Sx Rf Dc Rr Dq
abbrev dcA (a b : Int) : AV := .agg [.int .i64 a, .int .i64 b]
def rtT (a b : Int) (x y : Bool) (z : Bool → Bool → Bool) : Ans := .br (decide (a < -999999999999999)) (.ret (.bool false) []) (.br (decide (a > 999999999999999)) (.ret (.bool false) []) (.br (decide (b < -9)) (.ret (.bool false) []) (.br (decide (b > 9)) (.ret (.bool false) []) (.br (a == 0) (.ret (.bool (b == 0)) []) (.br x (.ret (.bool true) []) (.ret (.bool y) []))))))
theorem rt_doc (a b : Int) : Comes [] nolv 86 [dcA a b] [] (rtT a b (a.tmod 10 != 0) (b == 9) fun x y => x) := by unfold Comes; kernel_rfl
theorem rt_dec (a b : Int) : Comes [] nolv 67 [dcA a b] [] (rtT a b (b == 9) (a.tmod 10 != 0) fun x y => x) := by unfold Comes; kernel_rfl
theorem rt_run {a b : Int} {x y : Bool} {z : Bool → Bool → Bool} (h : (x || y) = ((b == 9) || (a.tmod 10 != 0))) : (rtT a b x y z).run pure2 = pure2 (.bool (rightB a b)) [] := by
  unfold rtT
  by_cases h1 : a < -999999999999999
  · rw [brT (decide_eq_true h1), show rightB a b = false from decide_eq_false (by omega)]; rfl
  by_cases h2 : a > 999999999999999
  · rw [brF (decide_eq_false h1), brT (decide_eq_true h2), show rightB a b = false from decide_eq_false (by omega)]; rfl
  by_cases h3 : b < -9
  · rw [brF (decide_eq_false h1), brF (decide_eq_false h2), brT (decide_eq_true h3), show rightB a b = false from decide_eq_false (by omega)]; rfl
  by_cases h4 : b > 9
  · rw [brF (decide_eq_false h1), brF (decide_eq_false h2), brF (decide_eq_false h3), brT (decide_eq_true h4), show rightB a b = false from decide_eq_false (by omega)]; rfl
  rw [brF (decide_eq_false h1), brF (decide_eq_false h2), brF (decide_eq_false h3), brF (decide_eq_false h4)]
  by_cases h5 : a = 0
  · rw [brT (beq_iff_eq.2 h5)]
    have : rightB a b = (b == 0) := by
      unfold rightB
      by_cases h6 : b = 0
      · rw [decide_eq_true (by omega), beq_iff_eq.2 h6]
      · rw [decide_eq_false (by omega), beq_eq_false_iff_ne.2 h6]
    rw [this]; rfl
  · rw [brF (beq_eq_false_iff_ne.2 h5)]
    have : rightB a b = (x || y) := by
      rw [h]
      unfold rightB
      by_cases h6 : b = 9
      · rw [decide_eq_true (by omega), beq_iff_eq.2 h6]; rfl
      · rw [beq_eq_false_iff_ne.2 h6, Bool.false_or]
        by_cases h7 : a.tmod 10 = 0
        · rw [decide_eq_false (by omega), bne_eq_false_iff_eq.2 h7]
        · rw [decide_eq_true (by omega), bne_iff_ne.2 h7]
    rw [this]
    cases x <;> rfl
def eRt : Ent := fun args pre => match args, pre with
  | [.agg [.int .i64 a, .int .i64 b]], [] => .ret (.bool (rightB a b)) []
  | _, _ => .fail
theorem eRtR_ok : EntOK Tryz.prog 86 eRt := fun args pre => by
  unfold eRt; split
  · exact of_run (ans_comes .nil (rt_doc _ _)) fun r hr => (rt_run (Bool.or_comm _ _)).trans hr
  · trivial
theorem eRtD_ok : EntOK Tryz.prog 67 eRt := fun args pre => by
  unfold eRt; split
  · exact of_run (ans_comes .nil (rt_dec _ _)) fun r hr => (rt_run rfl).trans hr
  · trivial
-- whole
variable {NR : Bool → Nat → Nat → Int × Int × Int}
theorem wh_comes (x : NumF) (a b : Int) : Comes (tabNr x) nolv 84 [dcA a b] [] (.chk (x.okE 0 a 0) (.chk (x.okT (x.E 0 a 0) (x.kE 0 a 0) (wrN (b + 9))) (.ret (.dsl 0 (x.kT (x.E 0 a 0) (x.kE 0 a 0) (wrN (b + 9)))) [.flatI true (x.T (x.E 0 a 0) (x.kE 0 a 0) (wrN (b + 9)))]))) := by unfold Comes; kernel_rfl
theorem gW_ok : EntOK Tryz.prog 84 (gW (numF NR)) := fun args pre => by
  unfold gW; split
  · rename_i n m
    refine ⟨fun hb => ?_, fun _ => trivial⟩
    have hb := of_decide_eq_true hb
    have w : wrN (m + 9) = m + 9 := by unfold wrN; exact i64_in (by omega) (by omega)
    have h20 := nd_small (n := n.natAbs) (by omega)
    exact meets_ent (pre := []) (tabNr_ok (NR := NR)) host ((wh_comes (numF NR) n m).trans (by
      rw [chkT (okE0 (inI_iff.2 ⟨by omega, by omega⟩)), E0, kE0, w, chkT (okT_dg (by omega) (by omega)), T_dg, kT_dg]; rfl))
  · trivial
theorem gN1_ok (h : ∀ b N M, nd N < 100000 → nd M < 100000 → 0 < M → Meets Tryz.prog 81 [.bool b, .dsl 0 (nd N), .dsl 1 (nd M)] [FL N, FL M] (R3 (NR b N M)) [FL N, FL M]) : EntOK Tryz.prog 81 (gN1 (numF NR)) := fun args pre => by
  unfold gN1; split
  · rename_i b k k1 m l l1 t
    refine ⟨fun hb => ?_, fun _ => trivial⟩
    obtain ⟨h1, g2⟩ := Bool.and_eq_true_iff.1 hb
    obtain ⟨g3, h3⟩ := Bool.and_eq_true_iff.1 g2
    have h3 := of_decide_eq_true h3
    obtain ⟨a, ea, ta, rfl, na⟩ := isD_get h1
    obtain ⟨c, ec, tc, rfl, nc⟩ := isD_get g3
    rw [ec] at h3
    show Meets _ _ _ _ (R3 (NR b (nT l _) (nT l1 _))) _
    rw [ea, ec]
    exact meets_args (meets_fitV (l := l1) (t := t) (meets_fitF (m' := m) (l := l) (h b a c (by omega) (by omega) h3.2.2) (j := 0) rfl ta) (j := 1) rfl tc) fun E xs hx => by
      obtain ⟨a, zs, ha, hz, rfl⟩ := denL_cons.1 hx
      obtain ⟨b, ys, hb, hy, rfl⟩ := denL_cons.1 hz
      obtain ⟨c, us, hc, hu, rfl⟩ := denL_cons.1 hy
      exact denL_cons.2 ⟨a, _, ha, denL_cons.2 ⟨b, _, hb, denL_cons.2 ⟨c, us, den_asD hc, hu, rfl⟩, rfl⟩, rfl⟩
  · rename_i b k k1 m l m1 l1
    refine ⟨fun hb => ?_, fun _ => trivial⟩
    obtain ⟨h1, g2⟩ := Bool.and_eq_true_iff.1 hb
    obtain ⟨g3, h3⟩ := Bool.and_eq_true_iff.1 g2
    have h3 := of_decide_eq_true h3
    obtain ⟨a, ea, ta, rfl, na⟩ := isD_get h1
    obtain ⟨c, ec, tc, rfl, nc⟩ := isD_get g3
    rw [ec] at h3
    show Meets _ _ _ _ (R3 (NR b (nT l _) (nT l1 _))) _
    rw [ea, ec]
    exact meets_fitF (m' := m1) (l := l1) (meets_fitF (m' := m) (l := l) (h b a c (by omega) (by omega) h3.2.2) (j := 0) rfl ta) (j := 1) rfl tc
  · trivial
def tOf (x : NumF) : Tab := (84, gW x) :: (81, gN1 x) :: (86, eRt) :: tabNr x
theorem tOf_ok (h : ∀ b N M, nd N < 100000 → nd M < 100000 → 0 < M → Meets Tryz.prog 81 [.bool b, .dsl 0 (nd N), .dsl 1 (nd M)] [FL N, FL M] (R3 (NR b N M)) [FL N, FL M]) : TabOK Tryz.prog (tOf (numF NR)) := .cons gW_ok (.cons (gN1_ok h) (.cons eRtR_ok tabNr_ok))
/-- A decimal as a whole number of billionths, without its sign. -/
def wN (m e : Int) : Nat := m.natAbs * 10 ^ (e + 9).toNat
def badA : Ans := .ret (R3 (0, 0, 10)) []
def ofT (x : NumF) (a : Int) (r : Int × Int × Int) : Ans :=
  .chk (x.okE 0 a 0) (.chk (x.okN (decide (a < 0)) (x.E 0 a 0) (x.kE 0 a 0) [1] 1) (.br (r.2.2 != 0) badA (.chk (x.okE 2 r.1 r.2.1) (.chk (x.okE 0 a 0) (.chk (x.okT (x.E 0 a 0) (x.kE 0 a 0) 9)
    (.chk (x.okL (x.E 2 r.1 r.2.1) (x.kE 2 r.1 r.2.1) (x.T (x.E 0 a 0) (x.kE 0 a 0) 9) (x.kT (x.E 0 a 0) (x.kE 0 a 0) 9)) (.br (x.L (x.E 2 r.1 r.2.1) (x.kE 2 r.1 r.2.1) (x.T (x.E 0 a 0) (x.kE 0 a 0) 9) (x.kT (x.E 0 a 0) (x.kE 0 a 0) 9)) badA
    (.chk (x.okE 0 a 0) (.chk (x.okT (x.E 0 a 0) (x.kE 0 a 0) 9) (.chk (x.okE 2 r.1 r.2.1) (.chk (x.okL (x.T (x.E 0 a 0) (x.kE 0 a 0) 9) (x.kT (x.E 0 a 0) (x.kE 0 a 0) 9) (x.E 2 r.1 r.2.1) (x.kE 2 r.1 r.2.1))
    (.br (x.L (x.T (x.E 0 a 0) (x.kE 0 a 0) 9) (x.kT (x.E 0 a 0) (x.kE 0 a 0) 9) (x.E 2 r.1 r.2.1) (x.kE 2 r.1 r.2.1)) badA (.ret (R3 (r.1, r.2.1, 0)) [])))))))))))))
theorem of_comes (x : NumF) (a : Int) : Comes (tOf x) nolv 35 [.int .i64 a] [] (ofT x a (x.N (decide (a < 0)) (x.E 0 a 0) (x.kE 0 a 0) [1] 1)) := by unfold Comes; kernel_rfl
def ofV (a : Int) (r : Int × Int × Int) : Int × Int × Int := if r.2.2 = 0 ∧ wN r.1 r.2.1 = a.natAbs * 10 ^ 9 then (r.1, r.2.1, 0) else (0, 0, 10)
theorem of_run' {a : Int} {r : Int × Int × Int} (ha : inI a = true) (hr : r.2.2 = 0 → rightB r.1 r.2.1 = true) (hN : NR (decide (a < 0)) a.natAbs 1 = r) : (ofT (numF NR) a r).run pure2 = pure2 (R3 (ofV a r)) [] := by
  have hi := inI_iff.1 ha
  have h20 := nd_small (n := a.natAbs) (by omega)
  have oE : (numF NR).okE 0 a 0 = true := okE0 ha
  have oN : (numF NR).okN (decide (a < 0)) (dg a.natAbs) (nd a.natAbs) [1] 1 = true := by
    show (isD _ _ && (isD _ _ && decide _)) = true
    rw [isD_dg (by omega), Bool.true_and]
    have e1 : isD [1] 1 = true := by have := isD_dg (a := 1) (by rw [nd_one]; omega); rwa [dg_one, nd_one] at this
    have e2 : nT [1] 1 = 1 := by have := nT_dg 1; rwa [dg_one, nd_one] at this
    rw [e1, e2, Bool.true_and]; exact decide_eq_true (by omega)
  unfold ofT ofV
  rw [chkT oE, E0, kE0, chkT oN]
  by_cases h : r.2.2 = 0
  · have hR := of_decide_eq_true (hr h)
    have oE2 : (numF NR).okE 2 r.1 r.2.1 = true := decide_eq_true (by omega)
    have e2 : (numF NR).E 2 r.1 r.2.1 = dg (wN r.1 r.2.1) := rfl
    have k2 : (numF NR).kE 2 r.1 r.2.1 = nd (wN r.1 r.2.1) := rfl
    have w20 : nd (wN r.1 r.2.1) ≤ 100 := by
      have h1 := nd_pow (x := r.1.natAbs) (k := (r.2.1 + 9).toNat)
      have h2 := nd_small (n := r.1.natAbs) (by omega)
      unfold wN; omega
    have t9 := nd_pow (x := a.natAbs) (k := (9 : Int).toNat)
    have t9' : nd (a.natAbs * 10 ^ (9 : Int).toNat) ≤ 100 := by omega
    rw [brF (bne_eq_false_iff_eq.2 h), chkT oE2, chkT oE, chkT (okT_dg (by omega) (by omega)), e2, k2, T_dg, kT_dg, chkT (okL_dg (by omega) (by omega)), L_dg]
    by_cases h3 : wN r.1 r.2.1 < a.natAbs * 10 ^ (9 : Int).toNat
    · rw [brT (decide_eq_true h3), if_neg (fun hh => by rw [hh.2] at h3; exact absurd h3 (Nat.lt_irrefl _))]; rfl
    · rw [brF (decide_eq_false h3), chkT oE, chkT (okT_dg (by omega) (by omega)), chkT oE2, chkT (okL_dg (by omega) (by omega)), L_dg]
      by_cases h4 : a.natAbs * 10 ^ (9 : Int).toNat < wN r.1 r.2.1
      · rw [brT (decide_eq_true h4), if_neg (fun hh => by rw [hh.2] at h4; exact absurd h4 (Nat.lt_irrefl _))]; rfl
      · rw [brF (decide_eq_false h4), if_pos ⟨h, by rw [show (9 : Int).toNat = 9 from rfl] at h3 h4; omega⟩]; rfl
  · rw [brT (bne_iff_ne.2 h), if_neg (fun hh => h hh.1)]; rfl
-- quotients
def divT (x : NumF) (a b c d : Int) (A : List Int) (k : Nat) (C : List Int) (j : Nat) : Ans :=
  .br (!rightB a b) badA (.br (!rightB c d) badA (.br (c == 0) (.ret (R3 (0, 0, 11)) []) (.chk (x.okE 2 a b) (.chk (x.okE 2 c d) (.chk (x.okN (decide (a < 0) != decide (c < 0)) A k C j) (.ret (R3 (x.N (decide (a < 0) != decide (c < 0)) A k C j)) []))))))
theorem div_comes (x : NumF) (a b c d : Int) : Comes (tOf x) nolv 36 [dcA a b, dcA c d] [] (divT x a b c d (x.E 2 a b) (x.kE 2 a b) (x.E 2 c d) (x.kE 2 c d)) := by unfold Comes; kernel_rfl
theorem w_nd {a b : Int} (h : rightB a b = true) : nd (wN a b) ≤ 100 := by
  have hR := of_decide_eq_true h
  have h1 := nd_pow (x := a.natAbs) (k := (b + 9).toNat)
  have h2 := nd_small (n := a.natAbs) (by omega)
  unfold wN; omega
theorem div_run' {a b c d : Int} {r : Int × Int × Int} (hA : rightB a b = true) (hC : rightB c d = true) (h0 : c ≠ 0) (hN : NR (decide (a < 0) != decide (c < 0)) (wN a b) (wN c d) = r) : (divT (numF NR) a b c d ((numF NR).E 2 a b) ((numF NR).kE 2 a b) ((numF NR).E 2 c d) ((numF NR).kE 2 c d)).run pure2 = pure2 (R3 r) [] := by
  have hR := of_decide_eq_true hA
  have hS := of_decide_eq_true hC
  have wa := w_nd hA
  have wc := w_nd hC
  have hp : 0 < wN c d := Nat.mul_pos (by omega) (Nat.pow_pos (by decide))
  have e : ∀ a b, (numF NR).E 2 a b = dg (wN a b) := fun _ _ => rfl
  have k : ∀ a b, (numF NR).kE 2 a b = nd (wN a b) := fun _ _ => rfl
  have o1 : (numF NR).okE 2 a b = true := decide_eq_true (by omega)
  have o2 : (numF NR).okE 2 c d = true := decide_eq_true (by omega)
  have oN : (numF NR).okN (decide (a < 0) != decide (c < 0)) (dg (wN a b)) (nd (wN a b)) (dg (wN c d)) (nd (wN c d)) = true := by
    show (isD _ _ && (isD _ _ && decide _)) = true
    rw [isD_dg (by omega), isD_dg (by omega), nT_dg, Bool.true_and, Bool.true_and]; exact decide_eq_true (by omega)
  have eN : (numF NR).N (decide (a < 0) != decide (c < 0)) (dg (wN a b)) (nd (wN a b)) (dg (wN c d)) (nd (wN c d)) = r := by
    show NR _ (nT _ _) (nT _ _) = r
    rw [nT_dg, nT_dg]; exact hN
  unfold divT
  rw [brF (b := !rightB a b) (by rw [hA]; rfl), brF (b := !rightB c d) (by rw [hC]; rfl), brF (beq_eq_false_iff_ne.2 h0), chkT o1, chkT o2, e, e, k, k, chkT oN, eN]; rfl
/-- What is rounded is right. -/
theorem nearG_in {N M : Nat} {p : Nat × Int} : ∀ (f j : Nat), j + f = 19 → nearG N M f j = some p → p.1 ≤ 999999999999999 ∧ -9 ≤ p.2 ∧ p.2 ≤ 9
  | 0, j, h, hp => by simp [nearG] at hp
  | f + 1, j, h, hp => by
    rw [nearG] at hp
    split at hp
    · rename_i hc; cases hp; exact ⟨hc, by simp only; omega, by simp only; omega⟩
    · exact nearG_in f (j + 1) (by omega) hp
theorem trimD_right : ∀ (n : Nat) (m e : Int), e + n = 9 → -9 ≤ e → m.natAbs ≤ 999999999999999 → m ≠ 0 → rightB (trimD n m e).1 (trimD n m e).2 = true
  | 0, m, e, h, h1, h2, h3 => by unfold trimD; exact decide_eq_true ⟨by omega, by omega, by omega, by omega, fun e => absurd e h3, fun _ => .inl (by omega)⟩
  | n + 1, m, e, h, h1, h2, h3 => by
    unfold trimD
    split
    · rename_i hq
      have h4 : (m.tdiv 10).natAbs = m.natAbs / 10 := Int.natAbs_tdiv m 10
      have h5 : (m.tmod 10).natAbs = m.natAbs % 10 := Int.natAbs_tmod m 10
      rw [hq] at h5
      have h6 : (0 : Int).natAbs = 0 := rfl
      exact trimD_right n _ _ (by omega) (by omega) (by omega) (by omega)
    · rename_i hq
      exact decide_eq_true ⟨by omega, by omega, by omega, by omega, fun e => absurd e h3, fun _ => .inr hq⟩
theorem trimmedS_right {m e : Int} (h : -9 ≤ e ∧ e ≤ 9) (hm : m.natAbs ≤ 999999999999999) : rightB (trimmedS m e).1 (trimmedS m e).2 = true := by
  unfold trimmedS
  split
  · rfl
  · rename_i h0; exact trimD_right _ _ _ (by omega) h.1 hm h0
theorem rightB_neg {m e : Int} (h : rightB m e = true) : rightB (-m) e = true := by
  have h := of_decide_eq_true h
  refine decide_eq_true ⟨by omega, by omega, by omega, by omega, fun h0 => h.2.2.2.2.1 (by omega), fun h0 => ?_⟩
  rcases h.2.2.2.2.2 (by omega) with h1 | h1
  · exact .inl h1
  · exact .inr (by rw [Int.neg_tmod]; omega)
theorem nrR_right (b : Bool) (N M : Nat) : (nrR b N M).2.2 = 0 → rightB (nrR b N M).1 (nrR b N M).2.1 = true := by
  unfold nrR nearD nearX
  cases h : nearG N M 19 0 with
  | none => intro e; exact absurd e (by simp [nearXo])
  | some p =>
    intro _
    obtain ⟨h1, h2⟩ := nearG_in 19 0 rfl h
    have key := trimmedS_right (m := (p.1 : Int)) h2 (by omega)
    show rightB (nearDo b (some p)).1 (nearDo b (some p)).2 = true
    cases b with
    | false => exact key
    | true => exact rightB_neg key
theorem ofV_right (a : Int) (r : Int × Int × Int) (hr : r.2.2 = 0 → rightB r.1 r.2.1 = true) : rightB (ofV a r).1 (ofV a r).2.1 = true := by
  unfold ofV; split
  · rename_i h; exact hr h.1
  · rfl
def ofR (a : Int) : Int × Int × Int := ofV a (nrR (decide (a < 0)) a.natAbs 1)
theorem of_meets (a : Int) (ha : inI a = true) : Meets Tryz.prog 35 [.int .i64 a] [] (R3 (ofR a)) [] := by
  unfold ofR
  have key : ∀ (NR : Bool → Nat → Nat → Int × Int × Int) (r : Int × Int × Int), (∀ b N M, nd N < 100000 → nd M < 100000 → 0 < M → Meets Tryz.prog 81 [.bool b, .dsl 0 (nd N), .dsl 1 (nd M)] [FL N, FL M] (R3 (NR b N M)) [FL N, FL M]) → NR (decide (a < 0)) a.natAbs 1 = r → (r.2.2 = 0 → rightB r.1 r.2.1 = true) → Meets Tryz.prog 35 [.int .i64 a] [] (R3 (ofV a r)) [] := fun NR r h hr hR => by
    have hN : (numF NR).N (decide (a < 0)) ((numF NR).E 0 a 0) ((numF NR).kE 0 a 0) [1] 1 = r := by
      have e2 : nT [1] 1 = 1 := by have := nT_dg 1; rwa [dg_one, nd_one] at this
      show NR _ (nT (dg a.natAbs) (nd a.natAbs)) (nT [1] 1) = r
      rw [nT_dg, e2]; exact hr
    exact meets_ent (pre := []) (post := []) (tOf_ok h) host ((of_comes (numF NR) a).trans (by rw [hN]; exact of_run' ha hR hr))
  exact key nrR _ nrR_ok rfl (nrR_right _ _ _)
theorem div_meets (a b c d : Int) (hA : rightB a b = true) (hC : rightB c d = true) (h0 : c ≠ 0) : Meets Tryz.prog 36 [dcA a b, dcA c d] [] (R3 (nrR (decide (a < 0) != decide (c < 0)) (wN a b) (wN c d))) [] := by
  have key : ∀ (NR : Bool → Nat → Nat → Int × Int × Int) (r : Int × Int × Int), (∀ b N M, nd N < 100000 → nd M < 100000 → 0 < M → Meets Tryz.prog 81 [.bool b, .dsl 0 (nd N), .dsl 1 (nd M)] [FL N, FL M] (R3 (NR b N M)) [FL N, FL M]) → NR (decide (a < 0) != decide (c < 0)) (wN a b) (wN c d) = r → Meets Tryz.prog 36 [dcA a b, dcA c d] [] (R3 r) [] := fun NR r h hr =>
    meets_ent (pre := []) (post := []) (tOf_ok h) host ((div_comes (numF NR) a b c d).trans (div_run' hA hC h0 hr))
  exact key nrR _ nrR_ok rfl
end Go.Proofs.YtdomenmfkbfakaaGreatDoor

/- Layer 3: plain values as rows; which are the same, which are right. -/
set_option linter.unusedVariables false
set_option linter.unusedSimpArgs false
namespace Go.Proofs.YtdomenmfkbfakaaGreatDoor
open Go Sx
/-- The cells of a value: kind, number, text, truth, error, rows, columns, list, function, code. -/
def shV : List CK := [.int .i64, .int .i64, .int .i64, .str, .bool, .int .i64, .int .i64, .int .i64, .nils, .int .i64, .nils, .nils]
abbrev vL (k m e : Int) (s : List UInt8) (b : Bool) (r h w : Int) (l : AV) (f : Int) : AV := .agg [.int .i64 k, .int .i64 m, .int .i64 e, .str s, .bool b, .int .i64 r, .int .i64 h, .int .i64 w, l, .int .i64 f, .nilslice, .nilslice]
abbrev rk (r : List CV) : Int := (rowCV r 0).n
abbrev rm (r : List CV) : Int := (rowCV r 1).n
abbrev re (r : List CV) : Int := (rowCV r 2).n
abbrev rs (r : List CV) : List UInt8 := (rowCV r 3).s
abbrev rb (r : List CV) : Bool := (rowCV r 4).b
abbrev rr (r : List CV) : Int := (rowCV r 5).n
abbrev rh (r : List CV) : Int := (rowCV r 6).n
abbrev rw_ (r : List CV) : Int := (rowCV r 7).n
abbrev rf (r : List CV) : Int := (rowCV r 9).n
/-- A row as a value; fields as a row. -/
abbrev vR (r : List CV) : AV := vL (rk r) (rm r) (re r) (rs r) (rb r) (rr r) (rh r) (rw_ r) .nilslice (rf r)
def mkR (k m e : Int) (s : List UInt8) (b : Bool) (r h w f : Int) : List CV := [.mk k [] false [], .mk m [] false [], .mk e [] false [], .mk 0 s false [], .mk 0 [] b [], .mk r [] false [], .mk h [] false [], .mk w [] false [], .mk 0 [] false [], .mk f [] false [], .mk 0 [] false [], .mk 0 [] false []]
/-- Are fields the same? -/
def sameF (k m e : Int) (s : List UInt8) (b : Bool) (r h w f k' m' e' : Int) (s' : List UInt8) (b' : Bool) (r' h' w' f' : Int) : Bool :=
  k == k' && (m == m' && (e == e' && (s == s' && (b == b' && (r == r' && (h == h' && (w == w' && f == f')))))))
abbrev samR (x y : List CV) : Bool := sameF (rk x) (rm x) (re x) (rs x) (rb x) (rr x) (rh x) (rw_ x) (rf x) (rk y) (rm y) (re y) (rs y) (rb y) (rr y) (rh y) (rw_ y) (rf y)
def sameT (k m e : Int) (s : List UInt8) (b : Bool) (r h w f k' m' e' : Int) (s' : List UInt8) (b' : Bool) (r' h' w' f' : Int) (pre : List PObj) (x : Ans) : Ans :=
  let n : Ans := .ret (.bool false) pre
  .br (k != k') n (.br (!(m == m' && (e == e' && true))) n (.br (!(s == s')) n (.br (!(b == b')) n (.br (r != r') n (.br (h != h') n (.br (w != w') n (.br (f != f') n x)))))))
theorem sameT_run {k m e : Int} {s : List UInt8} {b : Bool} {r h w f k' m' e' : Int} {s' : List UInt8} {b' : Bool} {r' h' w' f' : Int} {pre : List PObj} {x : Ans} :
    (sameT k m e s b r h w f k' m' e' s' b' r' h' w' f' pre x).run pure2 = (Ans.br (sameF k m e s b r h w f k' m' e' s' b' r' h' w' f') x (.ret (.bool false) pre)).run pure2 := by
  unfold sameT sameF
  simp only [Ans.run, bne]
  cases k == k' <;> cases m == m' <;> cases e == e' <;> cases s == s' <;> try rfl
  cases b == b' <;> cases r == r' <;> cases h == h' <;> cases w == w' <;> try rfl
  cases f == f' <;> rfl
theorem same_pp (k m e : Int) (s : List UInt8) (b : Bool) (r h w f k' m' e' : Int) (s' : List UInt8) (b' : Bool) (r' h' w' f' : Int) : Comes [] nolv 26 [vL k m e s b r h w .nilslice f, vL k' m' e' s' b' r' h' w' .nilslice f'] [] (sameT k m e s b r h w f k' m' e' s' b' r' h' w' f' [] (.ret (.bool true) [])) := by unfold Comes; kernel_rfl
def eSamP : Ent := fun args pre => match args, pre with
  | [.agg [.int .i64 k, .int .i64 m, .int .i64 e, .str s, .bool b, .int .i64 r, .int .i64 h, .int .i64 w, .nilslice, .int .i64 f, .nilslice, .nilslice], .agg [.int .i64 k', .int .i64 m', .int .i64 e', .str s', .bool b', .int .i64 r', .int .i64 h', .int .i64 w', .nilslice, .int .i64 f', .nilslice, .nilslice]], [] =>
    .ret (.bool (sameF k m e s b r h w f k' m' e' s' b' r' h' w' f')) []
  | _, _ => .fail
theorem eSamP_ok : EntOK Tryz.prog 26 eSamP := fun args pre => by
  unfold eSamP
  split
  · exact of_run (ans_comes .nil (same_pp ..)) fun x hx => by
      rw [sameT_run, ← hx]
      simp only [Ans.run]
      generalize sameF _ _ _ _ _ _ _ _ _ _ _ _ _ _ _ _ _ _ = q
      cases q <;> rfl
  · trivial
-- which are right
def eIsT (tx : List UInt8 → Bool) : Ent := fun args pre => match args, pre with
  | [.str l], [] => .chk (decide (l.length ≤ 1000000)) (.ret (.bool (tx l)) [])
  | _, _ => .fail
def zF (m e : Int) (s : List UInt8) (b : Bool) (r h w f : Int) : Bool := sameF 0 m e s b r h w f 0 0 0 [] false 0 0 0 0
def rightF (tx : List UInt8 → Bool) (k m e : Int) (s : List UInt8) (b : Bool) (r h w f : Int) : Bool :=
  if k = 0 then zF m e s b r h w f else if k = 1 then Dq.rightB m e && zF 0 0 s b r h w f else if k = 2 then tx s && zF m e [] b r h w f else if k = 3 then zF m e s false r h w f
  else if k = 4 then decide (1 ≤ r ∧ r ≤ 9) && zF m e s b 0 h w f else false
abbrev rigR (tx : List UInt8 → Bool) (x : List CV) : Bool := rightF tx (rk x) (rm x) (re x) (rs x) (rb x) (rr x) (rh x) (rw_ x) (rf x)
def tRt (tx : List UInt8 → Bool) : Tab := [(67, eRt), (51, eIsT tx), (26, eSamP)]
section
variable (tx : List UInt8 → Bool) (m e : Int) (s : List UInt8) (b : Bool) (r h w f : Int)
def bT (q : Bool) : Ans := .ret (.bool q) []
theorem right_0 : Comes (tRt tx) nolv 27 [vL 0 m e s b r h w .nilslice f] [] (bT (zF m e s b r h w f)) := by unfold Comes; kernel_rfl
theorem right_1 : Comes (tRt tx) nolv 27 [vL 1 m e s b r h w .nilslice f] [] (.br (Dq.rightB m e) (bT (zF 0 0 s b r h w f)) (bT false)) := by unfold Comes; kernel_rfl
theorem right_2 : Comes (tRt tx) nolv 27 [vL 2 m e s b r h w .nilslice f] [] (.chk (decide (s.length ≤ 1000000)) (.br (tx s) (bT (zF m e [] b r h w f)) (bT false))) := by unfold Comes; kernel_rfl
theorem right_3 : Comes (tRt tx) nolv 27 [vL 3 m e s b r h w .nilslice f] [] (bT (zF m e s false r h w f)) := by unfold Comes; kernel_rfl
theorem right_4 : Comes (tRt tx) nolv 27 [vL 4 m e s b r h w .nilslice f] [] (.br (decide (r ≥ 1)) (.br (decide (r ≤ 9)) (bT (zF m e s b 0 h w f)) (bT false)) (bT false)) := by unfold Comes; kernel_rfl
end
def eRigP (tx : List UInt8 → Bool) : Ent := fun args pre => match args, pre with
  | [.agg [.int .i64 k, .int .i64 m, .int .i64 e, .str s, .bool b, .int .i64 r, .int .i64 h, .int .i64 w, .nilslice, .int .i64 f, .nilslice, .nilslice]], [] =>
    .chk (decide (0 ≤ k ∧ k ≤ 4)) (.chk (decide (s.length ≤ 1000000)) (.ret (.bool (rightF tx k m e s b r h w f)) []))
  | _, _ => .fail
theorem eRigP_ok {tx : List UInt8 → Bool} (ht : EntOK Tryz.prog 51 (eIsT tx)) : EntOK Tryz.prog 27 (eRigP tx) := fun args pre => by
  unfold eRigP
  split
  · rename_i k m e s b r h w f
    refine ⟨fun g1 => ⟨fun g2 => ?_, fun _ => trivial⟩, fun _ => trivial⟩
    have g1 := of_decide_eq_true g1
    have T : TabOK Tryz.prog (tRt tx) := .cons eRtD_ok (.cons ht (.cons eSamP_ok .nil))
    have hk : k = 0 ∨ k = 1 ∨ k = 2 ∨ k = 3 ∨ k = 4 := by omega
    rcases hk with rfl | rfl | rfl | rfl | rfl
    · exact of_run (ans_comes T (right_0 ..)) fun x hx => by rw [← hx]; rfl
    · exact of_run (ans_comes T (right_1 ..)) fun x hx => by
        rw [← hx]; show _ = pure2 (.bool (Dq.rightB m e && zF 0 0 s b r h w f)) []
        cases Dq.rightB m e <;> rfl
    · exact of_run (ans_comes T (right_2 ..)) fun x hx => by
        rw [← hx, chkT g2]; show _ = pure2 (.bool (tx s && zF m e [] b r h w f)) []
        cases hq : tx s <;> simp only [Ans.run, hq, bT, bcond, Bool.true_and, Bool.false_and]
    · exact of_run (ans_comes T (right_3 ..)) fun x hx => by rw [← hx]; rfl
    · exact of_run (ans_comes T (right_4 ..)) fun x hx => by
        rw [← hx]; show _ = pure2 (.bool (decide (1 ≤ r ∧ r ≤ 9) && zF m e s b 0 h w f)) []
        by_cases h1 : 1 ≤ r
        · rw [brT (decide_eq_true h1)]
          by_cases h2 : r ≤ 9
          · rw [brT (decide_eq_true h2), decide_eq_true (show 1 ≤ r ∧ r ≤ 9 from ⟨h1, h2⟩)]; rfl
          · rw [brF (decide_eq_false h2), decide_eq_false (fun h => h2 h.2)]; rfl
        · rw [brF (decide_eq_false h1), decide_eq_false (fun h => h1 h.1)]; rfl
  · trivial
end Go.Proofs.YtdomenmfkbfakaaGreatDoor

/- Layer 3: lists of plain values: which are the same. -/
set_option linter.unusedVariables false
set_option linter.unusedSimpArgs false
namespace Go.Proofs.YtdomenmfkbfakaaGreatDoor
open Go Sx
abbrev fR (R : List (List CV)) : PObj := .raw (.flatR false shV R)
/-- A list that is handed in: how many, which rows; it grows, or is never written. -/
def rowsIn (n : Nat) (v : AV) (o : PObj) : Option (Nat × List (List CV)) := match v, o with
  | .dsl j k, .raw (.flatR f sh R) => if Nat.beq j n && shEq sh shV then some (k, R) else none
  | .vec j k, .vecR sh R t => if Nat.beq j n && shEq sh shV then some (k, R) else none
  | _, _ => none
theorem rowsIn_spec {n k : Nat} {v : AV} {o : PObj} {R : List (List CV)} (h : rowsIn n v o = some (k, R)) : (v = .dsl n k ∧ ∃ f, o = .raw (.flatR f shV R)) ∨ (v = .vec n k ∧ ∃ t, o = .vecR shV R t) := by
  unfold rowsIn at h
  split at h
  · split at h
    · rename_i hc
      rw [Bool.and_eq_true, beqT] at hc
      obtain ⟨rfl, h2⟩ := hc
      obtain rfl := shEq_of h2
      cases h; exact .inl ⟨rfl, _, rfl⟩
    · cases h
  · split at h
    · rename_i hc
      rw [Bool.and_eq_true, beqT] at hc
      obtain ⟨rfl, h2⟩ := hc
      obtain rfl := shEq_of h2
      cases h; exact .inr ⟨rfl, _, rfl⟩
    · cases h
  · cases h
theorem rowsIn_den {n k : Nat} {v : AV} {o : PObj} {R : List (List CV)} (h : rowsIn n v o = some (k, R)) {E : Env} {x : Value} (hx : den E v = some x) : den E (.dsl n k) = some x := by
  rcases rowsIn_spec h with ⟨rfl, _⟩ | ⟨rfl, _⟩
  · exact hx
  · exact den_seal hx
/-- A contract of rows that are never written, of such rows as are handed in. -/
theorem meets_rows {f : FuncId} {args args' : List AV} {pre post : List AObj} {res : AV} {j n k : Nat} {v : AV} {o : PObj} {R : List (List CV)} (hs : rowsIn n v o = some (k, R)) (h : Meets Tryz.prog f args pre res post) (hj : pre[j]? = some (.flatR false shV R)) (ha : ∀ E xs, denL E args' = some xs → denL E args = some xs) :
    Meets Tryz.prog f args' (pre.set j o.toA) res (post.set j o.toA) := by
  refine meets_args ?_ ha
  rcases rowsIn_spec hs with ⟨_, f', rfl⟩ | ⟨_, t, rfl⟩
  · exact meets_fitO h hj rfl (fun E w b c ho => ho) rfl fun b c k ht => ht
  · exact meets_fitR h hj
theorem den_L {E : Env} {k m e : Int} {s : List UInt8} {b : Bool} {r h w f : Int} {l l' : AV} {x : Value} (hl : ∀ y, den E l = some y → den E l' = some y) (hx : den E (vL k m e s b r h w l f) = some x) : den E (vL k m e s b r h w l' f) = some x := by
  simp only [den, denL] at hx ⊢
  cases hd : den E l with
  | none => rw [hd] at hx; simp at hx
  | some y => rw [hd] at hx; rw [hl y hd]; exact hx
-- slices.EqualFunc
def inR (i : Int) (R : List (List CV)) : Bool := decide (i.toNat < R.length) && true && true
theorem inR_nat {j : Nat} {R : List (List CV)} (h : j < R.length) : inR (j : Int) R = true := by unfold inR; rw [Int.toNat_natCast, decide_eq_true h]; rfl
end Go.Proofs.YtdomenmfkbfakaaGreatDoor

/- Layer 3: which arrays are right. -/
set_option linter.unusedVariables false
set_option linter.unusedSimpArgs false
namespace Go.Proofs.YtdomenmfkbfakaaGreatDoor
open Go Sx
theorem denL_L1 {E : Env} {k m e : Int} {s : List UInt8} {b : Bool} {r h w f : Int} {l l' : AV} (hl : ∀ y, den E l = some y → den E l' = some y) (us : List AV) : ∀ xs, denL E (vL k m e s b r h w l f :: us) = some xs → denL E (vL k m e s b r h w l' f :: us) = some xs := fun xs hx => by
  obtain ⟨x, zs, h1, h2, rfl⟩ := denL_cons.1 hx
  exact denL_cons.2 ⟨x, zs, den_L hl h1, h2, rfl⟩
theorem denL_tl {E : Env} {u : AV} {us us' : List AV} (h : ∀ xs, denL E us = some xs → denL E us' = some xs) : ∀ xs, denL E (u :: us) = some xs → denL E (u :: us') = some xs := fun xs hx => by
  obtain ⟨x, zs, h1, h2, rfl⟩ := denL_cons.1 hx
  exact denL_cons.2 ⟨x, zs, h1, h _ h2, rfl⟩
-- isGrid
def sG (a : Nat) (R : List (List CV)) (i : Int) : PState := ⟨nn 33 ++ some (.dsl 0 a) :: some (.int .i64 a) :: some (.int .i64 i) :: nn 17, some (.raw (.flatR false shV R)) :: nn 64⟩
def sGX (q : Option AV) (R : List (List CV)) : PState := ⟨none :: none :: q :: nn 50, some (.raw (.flatR false shV R)) :: nn 64⟩
noncomputable abbrev loopG1 : Code := (loopBodies (bodyOf Tryz.f68)).headD .skip
def tRig (tx : List UInt8 → Bool) : Tab := [(27, eRigP tx)]
def gR (x : List CV) (a b : PState) (tx : List UInt8 → Bool) : Option (Ex × PState) :=
  bcond (rk x == 5) (some (.ret, a)) (bcond (rk x == 6) (some (.ret, a)) (chks (bcond (!rigR tx x) (some (.ret, a)) (some (.normal, b))) [decide (0 ≤ rk x ∧ rk x ≤ 4), decide ((rs x).length ≤ 1000000)]))
theorem rG (tx : List UInt8 → Bool) (a : Nat) (R : List (List CV)) (i : Int) : code (ent Tryz.prog (tRig tx) nolv 64 1 20) Tryz.prog {} 1 64 1 loopG1 (sG a R i) (endK 1 64 (fun n => hasN [33, 34, 35] n) (fun n => hasN [2] n))
  = bcond (decide (i < (a : Int))) (chks (gR (Sx.rowAt R i.toNat) (sGX (some (.bool false)) R) (sG a R (up1 i)) tx) [ixN i a, inR i R]) (some (.exit 0, sGX none R)) := by kernel_rfl
/-- Rows of plain kinds, their texts not too long. -/
def plR (x : List CV) : Bool := decide (0 ≤ rk x ∧ rk x ≤ 4) && decide ((rs x).length ≤ 1000000)
def rigFrom (tx : List UInt8 → Bool) (R : List (List CV)) : Nat → Nat → Bool
  | 0, _ => true
  | n + 1, i => rigR tx (Sx.rowAt R i) && rigFrom tx R n (i + 1)
def okRows (a : Nat) (R : List (List CV)) : Prop := a ≤ R.length ∧ a < 1000000000 ∧ ∀ i, i < a → plR (Sx.rowAt R i) = true
section
variable {tx : List UInt8 → Bool} (ht : EntOK Tryz.prog 51 (eIsT tx))
include ht
theorem tRig_ok : TabOK Tryz.prog (tRig tx) := .cons (eRigP_ok ht) .nil
theorem loopG {a : Nat} {R : List (List CV)} (hR : okRows a R) : Tri Tryz.prog (.loop loopG1) (sG a R 0).toA (bcond (rigFrom tx R a 0) (.exit 0) .ret) (sGX (bcond (rigFrom tx R a 0) none (some (.bool false))) R).toA 1 := by
  obtain ⟨hR, hs, hp⟩ := hR
  have key := loop_rounds (ent_sound (tRig_ok ht) host nolv_ok (NF := 64) (m := 1) 20) (NF := 64) (m := 1) (x := loopG1) (K := 1) loops_none (fun n => hasN [33, 34, 35] n) (fun n => hasN [2] n) (ι := { j : Nat // j ≤ a }) (fun j => sG a R (j.1 : Int)) (fun j => a - j.1) (fun j => (bcond (rigFrom tx R (a - j.1) j.1) (.exit 0) .ret, sGX (bcond (rigFrom tx R (a - j.1) j.1) none (some (.bool false))) R)) ?_ (fun j => by cases rigFrom tx R (a - j.1) j.1 <;> simp [bcond]) ⟨0, Nat.zero_le _⟩
  · exact key
  rintro ⟨j, hj⟩
  simp only
  have rd := rG tx a R (j : Int)
  by_cases h : j < a
  · have hx := hp j h
    unfold plR at hx
    rw [Bool.and_eq_true] at hx
    have hk := of_decide_eq_true hx.1
    rw [bcT (decide_eq_true (by omega)), chks_true (all2 (ixN_nat h) (inR_nat (by omega))), Int.toNat_natCast, up1_nat (by omega)] at rd
    unfold gR at rd
    rw [bcF (beq_eq_false_iff_ne.2 (by omega)), bcF (beq_eq_false_iff_ne.2 (by omega)), chks_true (all2 hx.1 hx.2)] at rd
    have e : a - j = (a - (j + 1)) + 1 := by omega
    rw [e, rigFrom]
    cases hq : rigR tx (Sx.rowAt R j) with
    | true => exact .inl ⟨⟨j + 1, h⟩, by simp only; omega, by simp only [Bool.true_and], by rw [rd, hq]; rfl⟩
    | false => exact .inr (by rw [rd, hq]; rfl)
  · rw [bcF (decide_eq_false (by omega))] at rd
    exact .inr (by rw [rd, show a - j = 0 by omega]; rfl)
end
noncomputable def lvG (A : LAns) (a : Nat) (R : List (List CV)) : FuncId → Lv := lvOf 68 (fun _ => some [33, 34, 35]) (oneL 4 (eAt 1 (sG a R 0) A))
theorem lvG_ok {A : LAns} {a : Nat} {R : List (List CV)} (h : LAnsOK Tryz.prog loopG1 1 (sG a R 0) A) : LvOK Tryz.prog (lvG A a R) := lvOne_ok (x := loopG1) Tryz.func68 (by kernel_rfl) fun K t => eAt_ok h K t
def w64 (a : Int) : Int := IntKind.i64.wrap a
def outG (c q : Bool) (R : List (List CV)) : LAns := .chk c (.br q (.out (.exit 0) (sGX none R)) (.out .ret (sGX (some (.bool false)) R)))
theorem grid_comes (c q : Bool) (k m e : Int) (s : List UInt8) (b : Bool) (r h w f : Int) (a : Nat) (R : List (List CV)) : Comes [] (lvG (outG c q R) a R) 68 [vL k m e s b r h w (.dsl 0 a) f] [fR R]
  (.br (decide (h < 1)) (.ret (.bool false) [fR R]) (.br (decide (w < 1)) (.ret (.bool false) [fR R]) (.chk (h != 0) (.br (decide (w > w64 (Int.tdiv 400 h))) (.ret (.bool false) [fR R]) (.br ((a : Int) != w64 (h * w)) (.ret (.bool false) [fR R]) (.chk (eqSt (sG a R 0) (sG a R 0)) (.chk c (.br q (.ret (.bool true) [fR R]) (.ret (.bool false) [fR R]))))))))) := by unfold Comes; kernel_rfl
/-- Is an array's list right for so many rows and columns? -/
def gridB (tx : List UInt8 → Bool) (h w : Int) (a : Nat) (R : List (List CV)) : Bool := decide (1 ≤ h ∧ 1 ≤ w ∧ w ≤ 400 / h ∧ (a : Int) = h * w) && rigFrom tx R a 0
theorem w64_of {a : Int} (h : inI a = true) : w64 a = a := i64_in (inI_iff.1 h).1 (inI_iff.1 h).2
theorem le_400 {h w : Int} (h1 : 1 ≤ h) (h2 : w ≤ 400 / h) : h * w ≤ 400 := by
  have := Int.mul_le_of_le_ediv (c := h) (a := w) (b := 400) (by omega) h2
  rw [Int.mul_comm]; exact this
theorem grid_meets {tx : List UInt8 → Bool} (ht : EntOK Tryz.prog 51 (eIsT tx)) {k m e : Int} {s : List UInt8} {b : Bool} {r h w f : Int} {a : Nat} {R : List (List CV)} (hR : okRows a R) :
    Meets Tryz.prog 68 [vL k m e s b r h w (.dsl 0 a) f] [.flatR false shV R] (.bool (gridB tx h w a R)) [.flatR false shV R] := by
  have hA : LAnsOK Tryz.prog loopG1 1 (sG a R 0) (outG true (rigFrom tx R a 0) R) := ⟨fun _ => by
    have key := loopG ht hR
    refine ⟨fun h => ?_, fun h => ?_⟩ <;> rw [h] at key <;> exact key, fun _ => trivial⟩
  refine meets_ent (T := []) (pre := [fR R]) (post := [fR R]) .nil host ((grid_comes true (rigFrom tx R a 0) ..).trans ?_) (lvG_ok hA)
  unfold gridB
  by_cases h1 : 1 ≤ h
  · rw [brF (decide_eq_false (by omega))]
    by_cases h2 : 1 ≤ w
    · rw [brF (decide_eq_false (by omega)), chkT (bne_iff_ne.2 (by omega))]
      have hd : w64 (Int.tdiv 400 h) = 400 / h := by
        rw [Int.tdiv_eq_ediv_of_nonneg (by omega)]
        have a1 : 0 ≤ 400 / h := Int.ediv_nonneg (by omega) (by omega)
        have a2 : 400 / h ≤ 400 := Int.ediv_le_self _ (by omega)
        exact w64_of (inI_iff.2 ⟨by omega, by omega⟩)
      rw [hd]
      by_cases h3 : w ≤ 400 / h
      · rw [brF (decide_eq_false (by omega))]
        have a3 := le_400 h1 h3
        have a4 : 0 ≤ h * w := Int.mul_nonneg (by omega) (by omega)
        rw [w64_of (inI_iff.2 ⟨by omega, by omega⟩)]
        by_cases h4 : (a : Int) = h * w
        · rw [brF (by rw [h4]; simp), chkT (eqSt_refl _), chkT rfl, decide_eq_true ⟨h1, h2, h3, h4⟩, Bool.true_and]
          cases hq : rigFrom tx R a 0 with
          | true => rw [brT rfl]; rfl
          | false => rw [brF rfl]; rfl
        · rw [brT (bne_iff_ne.2 h4), decide_eq_false (fun c => h4 c.2.2.2)]; rfl
      · rw [brT (decide_eq_true (by omega)), decide_eq_false (fun c => h3 c.2.2.1)]; rfl
    · rw [brT (decide_eq_true (by omega)), decide_eq_false (fun c => h2 c.2.1)]; rfl
  · rw [brT (decide_eq_true (by omega)), decide_eq_false (fun c => h1 c.1)]; rfl
open Classical in
noncomputable def eGrid (tx : List UInt8 → Bool) : Ent := fun args pre => match args, pre with
  | [.agg [.int .i64 k, .int .i64 m, .int .i64 e, .str s, .bool b, .int .i64 r, .int .i64 h, .int .i64 w, l, .int .i64 f, .nilslice, .nilslice]], [o] =>
    match rowsIn 0 l o with
    | some (a, R) => .chk (decide (okRows a R)) (.ret (.bool (gridB tx h w a R)) [o])
    | none => .fail
  | _, _ => .fail
open Classical in
theorem eGrid_ok {tx : List UInt8 → Bool} (ht : EntOK Tryz.prog 51 (eIsT tx)) : EntOK Tryz.prog 68 (eGrid tx) := fun args pre => by
  unfold eGrid
  split
  · split
    · rename_i hs
      refine ⟨fun g => ?_, fun _ => trivial⟩
      exact meets_rows (j := 0) hs (grid_meets ht (of_decide_eq_true g)) rfl fun E xs hx => denL_L1 (fun y hy => rowsIn_den hs hy) [] xs hx
    · trivial
  · trivial
-- Right
noncomputable def tRtA (tx : List UInt8 → Bool) : Tab := [(67, eRt), (51, eIsT tx), (26, eSamP), (68, eGrid tx)]
open Classical in
theorem rightA_comes (tx : List UInt8 → Bool) (m e : Int) (s : List UInt8) (b : Bool) (r h w f : Int) (a : Nat) (R : List (List CV)) : Comes (tRtA tx) nolv 27 [vL 5 m e s b r h w (.dsl 0 a) f] [fR R] (.chk (decide (okRows a R)) (.br (gridB tx h w a R) (.ret (.bool (zF m e s b r 0 0 f)) [fR R]) (.ret (.bool false) [fR R]))) := by unfold Comes; kernel_rfl
def rightA (tx : List UInt8 → Bool) (m e : Int) (s : List UInt8) (b : Bool) (r h w f : Int) (a : Nat) (R : List (List CV)) : Bool := gridB tx h w a R && zF m e s b r 0 0 f
open Classical in
noncomputable def eRig (tx : List UInt8 → Bool) : Ent := fun args pre => match args, pre with
  | [.agg [.int .i64 k, .int .i64 m, .int .i64 e, .str s, .bool b, .int .i64 r, .int .i64 h, .int .i64 w, l, .int .i64 f, .nilslice, .nilslice]], [o] =>
    match rowsIn 0 l o with
    | some (a, R) => .chk (k == 5) (.chk (decide (okRows a R)) (.ret (.bool (rightA tx m e s b r h w f a R)) [o]))
    | none => .fail
  | _, _ => eRigP tx args pre
open Classical in
theorem eRig_ok {tx : List UInt8 → Bool} (ht : EntOK Tryz.prog 51 (eIsT tx)) : EntOK Tryz.prog 27 (eRig tx) := fun args pre => by
  unfold eRig
  split
  · split
    · rename_i k m e s b r h w l f o _ a R hs
      refine ⟨fun g1 => ⟨fun g => ?_, fun _ => trivial⟩, fun _ => trivial⟩
      obtain rfl := beq_iff_eq.1 g1
      have T : TabOK Tryz.prog (tRtA tx) := .cons eRtD_ok (.cons ht (.cons eSamP_ok (.cons (eGrid_ok ht) .nil)))
      refine meets_rows (j := 0) hs (args := [vL 5 m e s b r h w (.dsl 0 a) f]) (pre := [.flatR false shV R]) (post := [.flatR false shV R]) (meets_ent (pre := [fR R]) (post := [fR R]) T host ((rightA_comes tx m e s b r h w f a R).trans ?_) nolv_ok) rfl fun E xs hx => denL_L1 (fun y hy => rowsIn_den hs hy) [] xs hx
      rw [chkT g]; unfold rightA
      cases hq : gridB tx h w a R with
      | true => rw [brT rfl]; rfl
      | false => rw [brF rfl]; rfl
    · trivial
  · exact eRigP_ok ht _ _
end Go.Proofs.YtdomenmfkbfakaaGreatDoor

/- Layer 3: copies of values. -/
set_option linter.unusedVariables false
set_option linter.unusedSimpArgs false
namespace Go.Proofs.YtdomenmfkbfakaaGreatDoor
open Go Sx
/-- A row, and nothing else of it. -/
abbrev nrm (x : List CV) : List CV := mkR (rk x) (rm x) (re x) (rs x) (rb x) (rr x) (rh x) (rw_ x) (rf x)
def vR34 (L : List (List CV)) : PObj := .vecR shV L 34
section
variable (k m e : Int) (s : List UInt8) (b : Bool) (r h w f : Int) (a : Nat) (R : List (List CV))
def vCells (l : AV) : PObj := .raw (.cells [.int .i64 k, .int .i64 m, .int .i64 e, .str s, .bool b, .int .i64 r, .int .i64 h, .int .i64 w, l, .int .i64 f, .nilslice, .nilslice] 34)
def bV (n : Nat) (L : List (List CV)) : Bool := true && decide (L.length * 12 = n * 12) && roomB (n + 1) 152
end
theorem all3' {a b c : Bool} (ha : a = true) (hb : b = true) (hc : c = true) : ∀ x ∈ [a, b, c], x = true := by simp [ha, hb, hc]
section
variable {k m e : Int} {s : List UInt8} {b : Bool} {r h w f : Int} {a : Nat} {R : List (List CV)}
end
end Go.Proofs.YtdomenmfkbfakaaGreatDoor

/- Layer 3: what stands where in an array; arrays that are made; which values are the same. -/
set_option linter.unusedVariables false
set_option linter.unusedSimpArgs false
namespace Go.Proofs.YtdomenmfkbfakaaGreatDoor
open Go Sx
/-- An error, as a row. -/
def errR (n : Int) : List CV := mkR 4 0 0 [] false n 0 0 0
-- Get
section
variable {tx : List UInt8 → Bool} (ht : EntOK Tryz.prog 51 (eIsT tx))
include ht
-- Make
end
-- Same
section
variable (k m e : Int) (s : List UInt8) (b : Bool) (r h w f k' m' e' : Int) (s' : List UInt8) (b' : Bool) (r' h' w' f' : Int) (a a' : Nat) (R S : List (List CV))
end
end Go.Proofs.YtdomenmfkbfakaaGreatDoor

/- Law 3: which of n things; a right text out of any bytes. -/
set_option linter.unusedVariables false
set_option linter.unusedSimpArgs false
namespace Go.Proofs.YtdomenmfkbfakaaGreatDoor
open Go Sx
-- pick
theorem pk_comes (c n : Int) : Comes [] nolv 24 [.int .i64 c, .int .i64 n] [] (.br (decide (c < 0)) (.chk (n != 0) (.ret (.int .i64 (Int.tmod (w64 (0 - w64 (c + 1))) n)) [])) (.chk (n != 0) (.ret (.int .i64 (Int.tmod c n)) []))) := by unfold Comes; kernel_rfl
def ePick : Ent := fun args pre => match args, pre with
  | [.int .i64 c, .int .i64 n], [] => .chk (inI c) (.chk (decide (0 < n ∧ n < 1000000000)) (.ret (.int .i64 (pickS c n)) []))
  | _, _ => .fail
theorem ePick_ok : EntOK Tryz.prog 24 ePick := fun args pre => by
  unfold ePick
  split
  · rename_i c n
    refine ⟨fun g1 => ⟨fun g2 => ?_, fun _ => trivial⟩, fun _ => trivial⟩
    have g2 := of_decide_eq_true g2
    have hc := inI_iff.1 g1
    refine of_run (x := .br (decide (c < 0)) _ _) (y := .ret (.int .i64 (pickS c n)) []) (ans_comes .nil (pk_comes c n)) fun r hr => ?_
    rw [← hr]
    unfold pickS
    by_cases h : c < 0
    · rw [brT (decide_eq_true h), chkT (bne_iff_ne.2 (by omega)), if_pos h, w64_of (a := c + 1) (inI_iff.2 ⟨by omega, by omega⟩), w64_of (a := 0 - (c + 1)) (inI_iff.2 ⟨by omega, by omega⟩), Int.zero_sub]
    · rw [brF (decide_eq_false h), chkT (bne_iff_ne.2 (by omega)), if_neg h]
  · trivial
-- Text
def sTx (s o : List UInt8) (i : Int) : PState := ⟨some (.str s) :: none :: none :: some (.str o) :: some (.int .i64 i) :: nn 42, nn 64⟩
def sTxX (o : List UInt8) : PState := ⟨none :: none :: none :: some (.str o) :: nn 43, nn 64⟩
noncomputable abbrev loopTx1 : Code := (loopBodies (bodyOf Tryz.f32)).headD .skip
def sgT (s : List UInt8) (i : Int) : Nat := signN (List.take (s.length - i.toNat) (List.drop i.toNat s))
def pcT (s : List UInt8) (i : Int) : List UInt8 := List.take ((w64 (i + sgT s i)).toNat - i.toNat) (List.drop i.toNat s)
def takeT (s o : List UInt8) (i : Int) : Option (Ex × PState) :=
  chks (some (.normal, sTx s (o ++ pcT s i) (w64 (i + sgT s i)))) [decide (0 ≤ i ∧ 0 ≤ w64 (i + sgT s i) ∧ i.toNat ≤ (w64 (i + sgT s i)).toNat ∧ (w64 (i + sgT s i)).toNat ≤ s.length), decide (o.length + (pcT s i).length ≤ 9223372036854775807)]
theorem rTx (s o : List UInt8) (i : Int) : code (ent Tryz.prog tab6 nolv 64 1 20) Tryz.prog {} 0 64 1 loopTx1 (sTx s o i) (endK 0 64 (fun n => hasN [0, 3, 4] n) (fun n => hasN [3] n))
  = bcond (decide (i < (s.length : Int))) (bcond (decide ((o.length : Int) < 37)) (chks (bcond (((sgT s i : Nat) : Int) == 0) (some (.normal, sTx s o (up1 i)))
      (chks (bcond (decide (byteAt s i.toNat < 32)) (some (.normal, sTx s o (up1 i))) (chks (bcond (byteAt s i.toNat == 127) (some (.normal, sTx s o (up1 i))) (takeT s o i)) [decide (0 ≤ i ∧ i.toNat < s.length)])) [decide (0 ≤ i ∧ i.toNat < s.length)])) [decide (0 ≤ i ∧ i.toNat ≤ s.length)])
      (some (.exit 0, sTxX o))) (some (.exit 0, sTxX o)) := by kernel_rfl
/-- Is a sign none, or none that a text has? -/
def badT (s : List UInt8) (p : Nat) : Bool := (signN (s.drop p) == 0) || (decide ((s.getD p 0).toNat < 32) || ((s.getD p 0).toNat == 127))
def txS (s : List UInt8) : Nat → Nat → List UInt8 → List UInt8
  | 0, _, o => o
  | n + 1, p, o => bcond (decide (p < s.length ∧ o.length < 37)) (bcond (badT s p) (txS s n (p + 1) o) (txS s n (p + signN (s.drop p)) (o ++ (s.drop p).take (signN (s.drop p))))) o
theorem byteAt_nat (s : List UInt8) (p : Nat) : byteAt s p = ((s.getD p 0).toNat : Int) := rfl
theorem txS_done {s : List UInt8} {n p : Nat} {o : List UInt8} (h : ¬(p < s.length ∧ o.length < 37)) : txS s n p o = o := by
  cases n with
  | zero => rfl
  | succ n => unfold txS; rw [bcF (decide_eq_false h)]
theorem sign_le4 (L : List UInt8) : signN L ≤ 4 := by
  unfold signN; repeat' split
  all_goals omega
theorem up1_63 {j : Nat} (h : j < 9223372036854775807) : up1 (j : Int) = ((j + 1 : Nat) : Int) := by unfold up1; rw [i64_in (by omega) (by omega)]; rfl
theorem roundTx {s o : List UInt8} {p n : Nat} (hs : s.length ≤ 9223372036854775807) (hn : s.length ≤ p + n) :
    (∃ q o', (s.length ≤ q + (n - 1) ∧ 0 < n ∧ txS s n p o = txS s (n - 1) q o') ∧ code (ent Tryz.prog tab6 nolv 64 1 20) Tryz.prog {} 0 64 1 loopTx1 (sTx s o p) (endK 0 64 (fun n => hasN [0, 3, 4] n) (fun n => hasN [3] n)) = some (.normal, sTx s o' q)) ∨
    code (ent Tryz.prog tab6 nolv 64 1 20) Tryz.prog {} 0 64 1 loopTx1 (sTx s o p) (endK 0 64 (fun n => hasN [0, 3, 4] n) (fun n => hasN [3] n)) = some (.exit 0, sTxX (txS s n p o)) := by
  have rd := rTx s o (p : Int)
  by_cases h1 : p < s.length
  · rw [bcT (b := decide ((p : Int) < (s.length : Int))) (decide_eq_true (by omega))] at rd
    by_cases h2 : o.length < 37
    · have hk4 := sign_le4 (s.drop p)
      have hk := signN_le (s.drop p)
      rw [List.length_drop] at hk
      have e : sgT s (p : Int) = signN (s.drop p) := by unfold sgT; rw [Int.toNat_natCast, List.take_of_length_le (by simp)]
      have ew : w64 ((p : Int) + (signN (s.drop p) : Nat)) = ((p + signN (s.drop p) : Nat) : Int) := by rw [w64_of (inI_iff.2 ⟨by omega, by omega⟩)]; push_cast; rfl
      have ep : pcT s (p : Int) = (s.drop p).take (signN (s.drop p)) := by unfold pcT; rw [e, ew, Int.toNat_natCast, Int.toNat_natCast, Nat.add_sub_cancel_left]
      cases n with
      | zero => omega
      | succ n =>
      rw [bcT (b := decide ((o.length : Int) < 37)) (decide_eq_true (by omega)), chks_true (by simp; omega), e, up1_63 (by omega), Int.toNat_natCast, byteAt_nat] at rd
      left
      rw [txS, bcT (b := decide (p < s.length ∧ o.length < 37)) (decide_eq_true ⟨h1, h2⟩), Nat.add_sub_cancel]
      have hx : ∀ c ∈ [decide (0 ≤ (p : Int) ∧ p < s.length)], c = true := by simp; omega
      by_cases h3 : signN (s.drop p) = 0
      · rw [bcT (beq_iff_eq.2 (by omega))] at rd
        exact ⟨p + 1, o, ⟨by omega, by omega, by unfold badT; rw [h3]; rfl⟩, rd⟩
      rw [bcF (beq_eq_false_iff_ne.2 (by omega)), chks_true hx] at rd
      by_cases h4 : (s.getD p 0).toNat < 32
      · rw [bcT (decide_eq_true (by omega))] at rd
        exact ⟨p + 1, o, ⟨by omega, by omega, by unfold badT; rw [decide_eq_true h4, Bool.true_or, Bool.or_true]; rfl⟩, rd⟩
      rw [bcF (decide_eq_false (by omega)), chks_true hx] at rd
      by_cases h5 : (s.getD p 0).toNat = 127
      · rw [bcT (beq_iff_eq.2 (by omega))] at rd
        exact ⟨p + 1, o, ⟨by omega, by omega, by unfold badT; rw [h5]; simp [bcond]⟩, rd⟩
      rw [bcF (beq_eq_false_iff_ne.2 (by omega))] at rd
      unfold takeT at rd
      rw [ep, e, ew, chks_true (by simp; omega)] at rd
      refine ⟨p + signN (s.drop p), o ++ (s.drop p).take (signN (s.drop p)), ⟨by omega, by omega, ?_⟩, rd⟩
      unfold badT; rw [beq_eq_false_iff_ne.2 h3, decide_eq_false h4, beq_eq_false_iff_ne.2 h5]; rfl
    · rw [bcF (b := decide ((o.length : Int) < 37)) (decide_eq_false (by omega))] at rd
      exact .inr (by rw [rd, txS_done (by omega)])
  · rw [bcF (b := decide ((p : Int) < (s.length : Int))) (decide_eq_false (by omega))] at rd
    exact .inr (by rw [rd, txS_done (by omega)])
theorem loopTx {s : List UInt8} (hs : s.length ≤ 9223372036854775807) : Tri Tryz.prog (.loop loopTx1) (sTx s [] 0).toA (.exit 0) (sTxX (txS s s.length 0 [])).toA 0 := by
  have key := loop_rounds (ent_sound (T := tab6) tab6_ok host nolv_ok (NF := 64) (m := 1) 20) (NF := 64) (m := 1) (x := loopTx1) (K := 0) loops_none (fun n => hasN [0, 3, 4] n) (fun n => hasN [3] n) (ι := { q : Nat × Nat × List UInt8 // s.length ≤ q.1 + q.2.1 }) (fun j => sTx s j.1.2.2 (j.1.1 : Int)) (fun j => j.1.2.1) (fun j => (.exit 0, sTxX (txS s j.1.2.1 j.1.1 j.1.2.2))) ?_ (fun j => by simp) ⟨(0, s.length, []), by simp⟩
  · exact key
  rintro ⟨⟨p, n, o⟩, hn⟩
  simp only at hn ⊢
  rcases roundTx (o := o) hs hn with ⟨q, o', ⟨h1, h2, h3⟩, h4⟩ | h
  · exact .inl ⟨⟨(q, n - 1, o'), h1⟩, by show n - 1 < n; omega, by simp only [h3], h4⟩
  · exact .inr h
def outTx (c : Bool) (o : List UInt8) : LAns := .chk c (.out (.exit 0) (sTxX o))
noncomputable def lvTx (s : List UInt8) (c : Bool) (o : List UInt8) : FuncId → Lv := lvOf 32 (fun _ => some [0, 3, 4]) (oneL 3 (eAt 0 (sTx s [] 0) (outTx c o)))
theorem tx_comes (s : List UInt8) (c : Bool) (o : List UInt8) : Comes [] (lvTx s c o) 32 [.str s] [] (.chk (eqSt (sTx s [] 0) (sTx s [] 0)) (.chk c (.ret (.str o) []))) := by unfold Comes; kernel_rfl
def textL (s : List UInt8) : List UInt8 := txS s s.length 0 []
def eTx (f : List UInt8 → List UInt8) : Ent := fun args pre => match args, pre with
  | [.str s], [] => .chk (decide (s.length ≤ 9223372036854775807)) (.ret (.str (f s)) [])
  | _, _ => .fail
theorem eTx_ok : EntOK Tryz.prog 32 (eTx textL) := fun args pre => by
  unfold eTx
  split
  · rename_i s
    refine ⟨fun g => ?_, fun _ => trivial⟩
    exact meets_ent (pre := []) (post := []) .nil host ((tx_comes s true (textL s)).trans (by rw [chkT (eqSt_refl _), chkT rfl]; rfl)) (lvOne_ok (x := loopTx1) Tryz.func32 (by kernel_rfl) fun K t => eAt_ok (a := outTx true (textL s)) ⟨fun _ => loopTx (of_decide_eq_true g), fun _ => trivial⟩ K t)
  · trivial
end Go.Proofs.YtdomenmfkbfakaaGreatDoor

/- Law 3: the texts of the law are right; plain values of raw numbers. -/
set_option linter.unusedVariables false
set_option linter.unusedSimpArgs false
namespace Go.Proofs.YtdomenmfkbfakaaGreatDoor
open Go Sx
/-- So many bytes decide of the first sign. -/
theorem getD_app {A t : List UInt8} {i : Nat} (h : i < A.length) : (A ++ t).getD i 0 = A.getD i 0 := by
  simp [List.getD_eq_getElem?_getD, List.getElem?_append_left h]
theorem getD_tk {L : List UInt8} {k i : Nat} (h : i < k) : (L.take k).getD i 0 = L.getD i 0 := by
  simp [List.getD_eq_getElem?_getD, List.getElem?_take, h]
theorem sign_app (L t : List UInt8) (h : signN L ≠ 0) : signN (L.take (signN L) ++ t) = signN L := by
  have hle := signN_le L
  have hz := sizeN_cases (L.getD 0 0).toNat
  have hlen : (L.take (signN L)).length = signN L := by rw [List.length_take]; omega
  have hg : ∀ i, i < signN L → (L.take (signN L) ++ t).getD i 0 = L.getD i 0 := fun i hi => by rw [getD_app (by omega), getD_tk hi]
  have hne : L.take (signN L) ++ t ≠ [] := fun e => by have := congrArg List.length e; rw [List.length_append, hlen] at this; simp at this; omega
  have hl2 : signN L ≤ (L.take (signN L) ++ t).length := by rw [List.length_append, hlen]; omega
  have g0 := hg 0 (by omega)
  generalize L.take (signN L) ++ t = M at *
  unfold signN at h hg hl2 hle ⊢
  rw [if_neg hne, g0]
  have hnL : L ≠ [] := fun e => h (by rw [if_pos e])
  rw [if_neg hnL] at h hg hl2 hle ⊢
  by_cases c1 : (L.getD 0 0).toNat < 128
  · rw [if_pos c1, if_pos c1]
  rw [if_neg c1] at h hg hl2 hle ⊢
  rw [if_neg c1]
  by_cases c2 : sizeN (L.getD 0 0).toNat = 0
  · rw [if_pos c2] at h; exact absurd rfl h
  rw [if_neg c2] at h hg hl2 hle ⊢
  rw [if_neg c2]
  by_cases c3 : L.length < sizeN (L.getD 0 0).toNat
  · rw [if_pos c3] at h; exact absurd rfl h
  rw [if_neg c3] at h hg hl2 hle ⊢
  by_cases c4 : (L.getD 1 0).toNat < loN (L.getD 0 0).toNat ∨ hiN (L.getD 0 0).toNat < (L.getD 1 0).toNat
  · rw [if_pos c4] at h; exact absurd rfl h
  rw [if_neg c4] at h hg hl2 hle ⊢
  by_cases c5 : sizeN (L.getD 0 0).toNat = 2
  · rw [if_pos c5] at h hg hl2 hle ⊢
    rw [if_neg (by omega), hg 1 (by omega), if_neg c4, if_pos c5]
  rw [if_neg c5] at h hg hl2 hle ⊢
  by_cases c6 : (L.getD 2 0).toNat < 128 ∨ 191 < (L.getD 2 0).toNat
  · rw [if_pos c6] at h; exact absurd rfl h
  rw [if_neg c6] at h hg hl2 hle ⊢
  by_cases c7 : sizeN (L.getD 0 0).toNat = 3
  · rw [if_pos c7] at h hg hl2 hle ⊢
    rw [if_neg (by omega), hg 1 (by omega), if_neg c4, if_neg c5, hg 2 (by omega), if_neg c6, if_pos c7]
  rw [if_neg c7] at h hg hl2 hle ⊢
  by_cases c8 : (L.getD 3 0).toNat < 128 ∨ 191 < (L.getD 3 0).toNat
  · rw [if_pos c8] at h; exact absurd rfl h
  rw [if_neg c8] at h hg hl2 hle ⊢
  rw [if_neg (by omega), hg 1 (by omega), if_neg c4, if_neg c5, hg 2 (by omega), if_neg c6, if_neg c7, hg 3 (by omega), if_neg c8]
/-- A sequence of signs that a text has. -/
inductive Sg : List UInt8 → Prop
  | nil : Sg []
  | cons {L t : List UInt8} (h : signN L ≠ 0) (h1 : ¬(L.getD 0 0).toNat < 32) (h2 : (L.getD 0 0).toNat ≠ 127) (ht : Sg t) : Sg (L.take (signN L) ++ t)
theorem Sg.snoc {o L : List UInt8} (ho : Sg o) (h : signN L ≠ 0) (h1 : ¬(L.getD 0 0).toNat < 32) (h2 : (L.getD 0 0).toNat ≠ 127) : Sg (o ++ L.take (signN L)) := by
  induction ho with
  | nil => have := Sg.cons h h1 h2 .nil; rwa [List.append_nil] at this
  | cons a b c _ ih => rw [List.append_assoc]; exact .cons a b c ih
theorem drop_getD0 (l : List UInt8) (p : Nat) : (l.drop p).getD 0 0 = l.getD p 0 := by simp [List.getD_eq_getElem?_getD]
theorem Sg.txt {l : List UInt8} : ∀ (n p : Nat), Sg (l.drop p) → txtB l n p = true
  | 0, p, _ => rfl
  | n + 1, p, h => by
    unfold txtB
    by_cases hp : p < l.length
    · generalize hd : l.drop p = D at h
      cases h with
      | nil => have := congrArg List.length hd; rw [List.length_drop] at this; simp at this; omega
      | @cons L t a b c ht =>
        have e0 : l.getD p 0 = L.getD 0 0 := by
          rw [← drop_getD0, hd, getD_app (by rw [List.length_take]; have := signN_le L; omega), getD_tk (by omega)]
        have es : signN (l.drop p) = signN L := by rw [hd]; exact sign_app L t a
        rw [bcT (decide_eq_true hp), sign_app L t a, bcF (beq_eq_false_iff_ne.2 a), e0, bcF (decide_eq_false b), bcF (beq_eq_false_iff_ne.2 c)]
        refine Sg.txt n _ ?_
        have : l.drop (p + signN L) = t := by
          rw [← List.drop_drop, hd, List.drop_append_of_le_length (by rw [List.length_take]; have := signN_le L; omega), List.drop_take, Nat.sub_self, List.take_zero, List.nil_append]
        rw [this]; exact ht
    · rw [bcF (decide_eq_false hp)]
theorem txS_ok {s : List UInt8} : ∀ (n p : Nat) (o : List UInt8), Sg o → o.length ≤ 40 → Sg (txS s n p o) ∧ (txS s n p o).length ≤ 40
  | 0, p, o, h1, h2 => ⟨h1, h2⟩
  | n + 1, p, o, h1, h2 => by
    unfold txS
    by_cases hc : p < s.length ∧ o.length < 37
    · rw [bcT (decide_eq_true hc)]
      cases hb : badT s p with
      | true => exact txS_ok n _ o h1 h2
      | false =>
        unfold badT at hb
        simp only [Bool.or_eq_false_iff, beq_eq_false_iff_ne, decide_eq_false_iff_not] at hb
        refine txS_ok n _ _ (h1.snoc hb.1 (by rw [drop_getD0]; exact hb.2.1) (by rw [drop_getD0]; exact hb.2.2)) ?_
        have : signN (s.drop p) ≤ 4 := by
          unfold signN; repeat' split
          all_goals omega
        rw [List.length_append, List.length_take]; omega
    · rw [bcF (decide_eq_false hc)]; exact ⟨h1, h2⟩
theorem Sg.text {l : List UInt8} (h : Sg l) : textB l = true := by
  have h1 := Sg.txt (l := l) l.length 0 h
  obtain ⟨k1, k2⟩ := text_of l l.length 0 (by omega) h1
  unfold textB; rw [k1]; exact k2
theorem textL_ok (s : List UInt8) : textB (textL s) = true ∧ (textL s).length ≤ 40 := by
  have := txS_ok (s := s) s.length 0 [] .nil (by simp)
  exact ⟨this.1.text, this.2⟩
/-- The program's own test. -/
def isTx (l : List UInt8) : Bool := decide (l.length ≤ 200) && textB l
theorem isT_comes (l : List UInt8) : Comes tab5 nolv 51 [.str l] [] (.br (decide ((l.length : Int) ≤ 200)) (.chk (decide (l.length ≤ 9223372036854775807)) (.ret (.bool (textB l)) [])) (.ret (.bool false) [])) := by unfold Comes; kernel_rfl
theorem eIsT_ok : EntOK Tryz.prog 51 (eIsT isTx) := fun args pre => by
  unfold eIsT
  split
  · rename_i l
    refine ⟨fun g => ?_, fun _ => trivial⟩
    refine of_run (x := .br _ _ _) (y := .ret _ _) (ans_comes tab5_ok (isT_comes l)) fun r hr => ?_
    rw [← hr]; unfold isTx
    have := of_decide_eq_true g
    by_cases h : l.length ≤ 200
    · rw [brT (decide_eq_true (by omega)), chkT (decide_eq_true (by omega)), decide_eq_true h, Bool.true_and]
    · rw [brF (decide_eq_false (by omega)), decide_eq_false h, Bool.false_and]
  · trivial
end Go.Proofs.YtdomenmfkbfakaaGreatDoor

/- Law 3: plain values of raw numbers, that are right. -/
set_option linter.unusedVariables false
set_option linter.unusedSimpArgs false
namespace Go.Proofs.YtdomenmfkbfakaaGreatDoor
open Go Sx
abbrev I3 := Int × Int × Int
def eOfF (fo : Int → I3) : Ent := fun args pre => match args, pre with
  | [.int .i64 a], [] => .chk (inI a) (.ret (R3 (fo a)) [])
  | _, _ => .fail
theorem eOfF_ok : EntOK Tryz.prog 35 (eOfF ofR) := fun args pre => by
  unfold eOfF
  split
  · exact ⟨fun g => of_meets _ g, fun _ => trivial⟩
  · trivial
def eDivF (fd : Int → Int → Int → Int → I3) : Ent := fun args pre => match args, pre with
  | [.agg [.int .i64 a, .int .i64 b], .agg [.int .i64 c, .int .i64 d]], [] => .chk (Dq.rightB a b) (.chk (Dq.rightB c d) (.chk (c != 0) (.ret (R3 (fd a b c d)) [])))
  | _, _ => .fail
def divR (a b c d : Int) : I3 := nrR (decide (a < 0) != decide (c < 0)) (wN a b) (wN c d)
theorem eDivF_ok : EntOK Tryz.prog 36 (eDivF divR) := fun args pre => by
  unfold eDivF
  split
  · exact ⟨fun g1 => ⟨fun g2 => ⟨fun g3 => div_meets _ _ _ _ g1 g2 (bne_iff_ne.1 g3), fun _ => trivial⟩, fun _ => trivial⟩, fun _ => trivial⟩
  · trivial
def tVl (fo : Int → I3) (fd : Int → Int → Int → Int → I3) (tf : List UInt8 → List UInt8) : Tab := [(24, ePick), (35, eOfF fo), (36, eDivF fd), (32, eTx tf)]
theorem tVl_ok : TabOK Tryz.prog (tVl ofR divR textL) := .cons ePick_ok (.cons eOfF_ok (.cons eDivF_ok (.cons eTx_ok .nil)))
def rowT (x : List CV) : Ans := .ret (vR x) []
def vlT (r1 r2 : I3) (c1 c2 : Bool) (t : List UInt8) (k m e : Int) (s : List UInt8) (b : Bool) : Ans :=
  .chk (inI k) (.br (pickS k 5 == 1) (.chk (inI m) (.chk (inI (w64 (pickS m 2000001 - 1000000))) (.chk (inI e) (.chk c1 (.chk c2 (.br (r1.2.2 == 0) (.br (r2.2.2 == 0) (rowT (mkR 1 r2.1 r2.2.1 [] false 0 0 0 0)) (rowT (mkR 1 0 0 [] false 0 0 0 0))) (rowT (mkR 1 0 0 [] false 0 0 0 0))))))))
    (.br (pickS k 5 == 2) (.chk (decide (s.length ≤ 9223372036854775807)) (rowT (mkR 2 0 0 t false 0 0 0 0))) (.br (pickS k 5 == 3) (rowT (mkR 3 0 0 [] b 0 0 0 0)) (.br (pickS k 5 == 4) (.chk (inI m) (rowT (mkR 4 0 0 [] false (w64 (1 + pickS m 9)) 0 0 0))) (rowT (mkR 0 0 0 [] false 0 0 0 0))))))
theorem vl_comes (fo : Int → I3) (fd : Int → Int → Int → Int → I3) (tf : List UInt8 → List UInt8) (k m e : Int) (s : List UInt8) (b : Bool) : Comes (tVl fo fd tf) nolv 12 [.agg [.int .i64 k, .int .i64 m, .int .i64 e, .str s, .bool b]] []
  (vlT (fo (w64 (pickS m 2000001 - 1000000))) (fd (fo (w64 (pickS m 2000001 - 1000000))).1 (fo (w64 (pickS m 2000001 - 1000000))).2.1 1 (pickS e 5)) (Dq.rightB (fo (w64 (pickS m 2000001 - 1000000))).1 (fo (w64 (pickS m 2000001 - 1000000))).2.1) (Dq.rightB 1 (pickS e 5)) (tf s) k m e s b) := by unfold Comes; kernel_rfl
def valF (r1 r2 : I3) (t : List UInt8) (k m : Int) (b : Bool) : List CV :=
  bcond (k == 1) (bcond (r1.2.2 == 0) (bcond (r2.2.2 == 0) (mkR 1 r2.1 r2.2.1 [] false 0 0 0 0) (mkR 1 0 0 [] false 0 0 0 0)) (mkR 1 0 0 [] false 0 0 0 0))
    (bcond (k == 2) (mkR 2 0 0 t false 0 0 0 0) (bcond (k == 3) (mkR 3 0 0 [] b 0 0 0 0) (bcond (k == 4) (mkR 4 0 0 [] false (1 + m) 0 0 0) (mkR 0 0 0 [] false 0 0 0 0))))
def numO (m : Int) : I3 := ofR (pickS m 2000001 - 1000000)
def numD (m e : Int) : I3 := divR (numO m).1 (numO m).2.1 1 (pickS e 5)
/-- The value of raw numbers, as a row. -/
def valR (k m e : Int) (s : List UInt8) (b : Bool) : List CV := valF (numO m) (numD m e) (textL s) (pickS k 5) (pickS m 9) b
def eVal (f : Int → Int → Int → List UInt8 → Bool → List CV) : Ent := fun args pre => match args, pre with
  | [.agg [.int .i64 k, .int .i64 m, .int .i64 e, .str s, .bool b]], [] => .chk (inI k) (.chk (inI m) (.chk (inI e) (.chk (decide (s.length ≤ 9223372036854775807)) (.ret (vR (f k m e s b)) []))))
  | _, _ => .fail
theorem one_right {x : Int} (h : 0 ≤ x ∧ x < 5) : Dq.rightB 1 x = true := by
  have : x = 0 ∨ x = 1 ∨ x = 2 ∨ x = 3 ∨ x = 4 := by omega
  rcases this with rfl | rfl | rfl | rfl | rfl <;> rfl
theorem numO_right (m : Int) : Dq.rightB (numO m).1 (numO m).2.1 = true := ofV_right _ _ (nrR_right _ _ _)
theorem numD_right (m e : Int) (h : (numD m e).2.2 = 0) : Dq.rightB (numD m e).1 (numD m e).2.1 = true := nrR_right _ _ _ h
theorem vlT_run {r1 r2 : I3} {c1 c2 : Bool} {t : List UInt8} {k m e : Int} {s : List UInt8} {b : Bool} (hk : inI k = true) (hm : inI m = true) (he : inI e = true) (hs : s.length ≤ 9223372036854775807) (h1 : c1 = true) (h2 : c2 = true) : (vlT r1 r2 c1 c2 t k m e s b).run pure2 = pure2 (vR (valF r1 r2 t (pickS k 5) (pickS m 9) b)) [] := by
  have b1 := pickS_bd (a := m) (n := 2000001) (by decide)
  have b2 := pickS_bd (a := m) (n := 9) (by decide)
  unfold vlT valF
  rw [chkT hk]
  cases q1 : pickS k 5 == 1 with
  | true =>
    rw [brT rfl, chkT hm, chkT (by rw [w64_of (inI_iff.2 ⟨by omega, by omega⟩)]; exact inI_iff.2 ⟨by omega, by omega⟩), chkT he, chkT h1, chkT h2]
    cases r1.2.2 == 0 <;> cases r2.2.2 == 0 <;> rfl
  | false =>
    rw [brF rfl]
    cases q2 : pickS k 5 == 2 with
    | true => rw [brT rfl, chkT (decide_eq_true hs)]; rfl
    | false =>
      rw [brF rfl]
      cases q3 : pickS k 5 == 3 with
      | true => rw [brT rfl]; rfl
      | false =>
        rw [brF rfl]
        cases q4 : pickS k 5 == 4 with
        | true => rw [brT rfl, chkT hm, w64_of (inI_iff.2 ⟨by omega, by omega⟩)]; rfl
        | false => rw [brF rfl]; rfl
theorem eVal_ok : EntOK Tryz.prog 12 (eVal valR) := fun args pre => by
  unfold eVal
  split
  · rename_i k m e s b
    refine ⟨fun g1 => ⟨fun g2 => ⟨fun g3 => ⟨fun g4 => ?_, fun _ => trivial⟩, fun _ => trivial⟩, fun _ => trivial⟩, fun _ => trivial⟩
    have b1 := pickS_bd (a := m) (n := 2000001) (by decide)
    have hw : w64 (pickS m 2000001 - 1000000) = pickS m 2000001 - 1000000 := w64_of (inI_iff.2 ⟨by omega, by omega⟩)
    have key := vl_comes ofR divR textL k m e s b
    rw [hw] at key
    exact meets_ent (pre := []) (post := []) tVl_ok host (key.trans (vlT_run g1 g2 g3 (of_decide_eq_true g4) (numO_right m) (one_right (pickS_bd (by decide))))) nolv_ok
  · trivial
theorem valF_ok {r1 r2 : I3} {t : List UInt8} {k m : Int} {b : Bool} (h2 : r2.2.2 = 0 → Dq.rightB r2.1 r2.2.1 = true) (ht : isTx t = true) (hl : t.length ≤ 40) (hm : 0 ≤ m ∧ m < 9) : plR (valF r1 r2 t k m b) = true ∧ rigR isTx (valF r1 r2 t k m b) = true := by
  unfold valF
  cases k == 1 with
  | true =>
    cases r1.2.2 == 0 with
    | false => exact ⟨by kernel_rfl, by kernel_rfl⟩
    | true => cases q : r2.2.2 == 0 with
      | false => exact ⟨by kernel_rfl, by kernel_rfl⟩
      | true =>
        refine ⟨rfl, ?_⟩
        show (Dq.rightB r2.1 r2.2.1 && zF 0 0 [] false 0 0 0 0) = true
        rw [h2 (beq_iff_eq.1 q)]; rfl
  | false => cases k == 2 with
    | true =>
      refine ⟨?_, ?_⟩
      · show (true && decide (t.length ≤ 1000000)) = true
        rw [decide_eq_true (by omega)]; rfl
      · show (isTx t && zF 0 0 [] false 0 0 0 0) = true
        rw [ht]; rfl
    | false => cases k == 3 with
      | true => exact ⟨rfl, rfl⟩
      | false => cases k == 4 with
        | true =>
          refine ⟨rfl, ?_⟩
          show (decide (1 ≤ 1 + m ∧ 1 + m ≤ 9) && zF 0 0 [] false 0 0 0 0) = true
          rw [decide_eq_true ⟨by omega, by omega⟩]; rfl
        | false => exact ⟨rfl, rfl⟩
theorem valR_ok (k m e : Int) (s : List UInt8) (b : Bool) : plR (valR k m e s b) = true ∧ rigR isTx (valR k m e s b) = true :=
  valF_ok (numD_right m e) (by unfold isTx; rw [(textL_ok s).1, decide_eq_true (by have := (textL_ok s).2; omega)]; rfl) (textL_ok s).2 (pickS_bd (by decide))
end Go.Proofs.YtdomenmfkbfakaaGreatDoor

/- Law 3: arrays of raw numbers. -/
set_option linter.unusedVariables false
set_option linter.unusedSimpArgs false
namespace Go.Proofs.YtdomenmfkbfakaaGreatDoor
open Go Sx
/-- The cells of raw numbers: kind, number, text, truth. -/
def shW : List CK := [.int .i64, .int .i64, .int .i64, .str, .bool]
abbrev fW (R : List (List CV)) : PObj := .raw (.flatR false shW R)
abbrev FV := Int → Int → Int → List UInt8 → Bool → List CV
abbrev rvF (f : FV) (x : List CV) : List CV := f (rowCV x 0).n (rowCV x 1).n (rowCV x 2).n (rowCV x 3).s (rowCV x 4).b
def zR : List CV := mkR 0 0 0 [] false 0 0 0 0
/-- Raw numbers that a program can hold. -/
def okC (x : List CV) : List Bool := [inI (rowCV x 0).n, inI (rowCV x 1).n, inI (rowCV x 2).n, decide ((rowCV x 3).s.length ≤ 9223372036854775807)]
section
variable (f : FV) (H W : Int) (a : Nat) (R : List (List CV))
def sA (l : AV) (t : List (Option PObj)) (i : Int) : PState := ⟨none :: none :: some (.dsl 0 a) :: none :: none :: none :: some (.ptr 1 0) :: some (.ptr 2 0) :: some (.int .i64 i) :: nn 39, some (fW R) :: some (vCells 0 0 0 [] false 0 0 0 0 .nilslice) :: some (vCells 5 0 0 [] false 0 H W 0 l) :: (t ++ nn 64)⟩
def sAX (l : AV) (t : List (Option PObj)) : PState := ⟨nn 6 ++ some (.ptr 1 0) :: some (.ptr 2 0) :: nn 40, some (fW R) :: some (vCells 0 0 0 [] false 0 0 0 0 .nilslice) :: some (vCells 5 0 0 [] false 0 H W 0 l) :: (t ++ nn 64)⟩
noncomputable abbrev loopA1 : Code := (loopBodies (bodyOf Tryz.f13)).headD .skip
def tAr : Tab := [(24, ePick), (12, eVal f)]
def rI (i : Int) : Int := Int.tmod i a
theorem rA0 : code (ent Tryz.prog (tAr f) nolv 64 1 20) Tryz.prog {} 1 64 1 loopA1 (sA H W a R .nilslice [] 0) (endK 1 64 (fun n => hasN [2, 6, 7, 8] n) (fun n => hasN [6, 7] n))
  = bcond (decide (0 < w64 (H * W))) (bcond ((a : Int) == 0) (some (.normal, sA H W a R (.vec 3 1) [some (vR34 [zR])] 1))
      (chks (chks (some (.normal, sA H W a R (.vec 3 1) [some (vR34 [nrm (rvF f (Sx.rowAt R (rI a 0).toNat))])] 1)) (okC (Sx.rowAt R (rI a 0).toNat))) [(a : Int) != 0, ixN (rI a 0) a, inR (rI a 0) R])) (some (.exit 0, sAX H W R .nilslice [])) := by kernel_rfl
theorem rA1 (n : Nat) (L : List (List CV)) (i : Int) : code (ent Tryz.prog (tAr f) nolv 64 1 20) Tryz.prog {} 1 64 1 loopA1 (sA H W a R (.vec 3 n) [some (vR34 L)] i) (endK 1 64 (fun n => hasN [2, 6, 7, 8] n) (fun n => hasN [6, 7] n))
  = bcond (decide (i < w64 (H * W))) (bcond ((a : Int) == 0) (chks (some (.normal, sA H W a R (.vec 3 (n + 1)) [some (vR34 (L ++ [zR]))] (up1 i))) [bV n L])
      (chks (chks (chks (some (.normal, sA H W a R (.vec 3 (n + 1)) [some (vR34 (L ++ [nrm (rvF f (Sx.rowAt R (rI a i).toNat))]))] (up1 i))) [bV n L]) (okC (Sx.rowAt R (rI a i).toNat))) [(a : Int) != 0, ixN (rI a i) a, inR (rI a i) R])) (some (.exit 0, sAX H W R (.vec 3 n) [some (vR34 L)])) := by kernel_rfl
def outA (N : Nat) (c : Bool) (L : List (List CV)) : LAns := .chk c (.out (.exit 0) (sAX H W R (.vec 3 N) [some (vR34 L)]))
noncomputable def lvA (N : Nat) (c : Bool) (L : List (List CV)) : FuncId → Lv := lvOf 13 (fun _ => some [2, 6, 7, 8]) (oneL 3 (eAt 1 (sA H W a R .nilslice [] 0) (outA H W R N c L)))
theorem ar_comes (h w : Int) (N : Nat) (c : Bool) (L : List (List CV)) : Comes [(24, ePick)] (lvA (w64 (1 + pickS h 5)) (w64 (1 + pickS w 5)) a R N c L) 13 [.int .i64 h, .int .i64 w, .dsl 0 a] [fW R]
  (.chk (inI h) (.chk (inI w) (.chk (eqSt (sA (w64 (1 + pickS h 5)) (w64 (1 + pickS w 5)) a R .nilslice [] 0) (sA (w64 (1 + pickS h 5)) (w64 (1 + pickS w 5)) a R .nilslice [] 0)) (.chk c (.ret (vL 5 0 0 [] false 0 (w64 (1 + pickS h 5)) (w64 (1 + pickS w 5)) (.vec 1 N) 0) [fW R, vR34 L]))))) := by unfold Comes; kernel_rfl
end
/-- The row of an array at a place, and so many of them. -/
def arJ (f : FV) (a : Nat) (R : List (List CV)) (i : Nat) : List CV := bcond (Nat.beq a 0) zR (nrm (rvF f (Sx.rowAt R (i % a))))
def arL (f : FV) (a : Nat) (R : List (List CV)) (n : Nat) : List (List CV) := (List.range n).map (arJ f a R)
theorem arL_succ (f : FV) (a : Nat) (R : List (List CV)) (n : Nat) : arL f a R n ++ [arJ f a R n] = arL f a R (n + 1) := by unfold arL; rw [List.range_succ, List.map_append]; rfl
theorem arL_len (f : FV) (a : Nat) (R : List (List CV)) (n : Nat) : (arL f a R n).length = n := by simp [arL]
theorem arL_at {f : FV} {a : Nat} {R : List (List CV)} {n i : Nat} (h : i < n) : Sx.rowAt (arL f a R n) i = arJ f a R i := by simp [arL, Sx.rowAt, h]
def okW (a : Nat) (R : List (List CV)) : Prop := a ≤ R.length ∧ a < 9223372036854775808 ∧ ∀ i, i < a → ∀ c ∈ okC (Sx.rowAt R i), c = true
section
variable {f : FV} {H W : Int} {a N : Nat} {R : List (List CV)}
def sAj (f : FV) (H W : Int) (a : Nat) (R : List (List CV)) : Nat → PState
  | 0 => sA H W a R .nilslice [] 0
  | n + 1 => sA H W a R (.vec 3 (n + 1)) [some (vR34 (arL f a R (n + 1)))] ((n + 1 : Nat) : Int)
theorem rI_nat (j : Nat) : rI a (j : Int) = ((j % a : Nat) : Int) := rfl
theorem roundA (hR : okW a R) (hN : w64 (H * W) = (N : Int)) (h1 : N ≤ 1000) (j : Nat) (hj : j < N) : code (ent Tryz.prog (tAr f) nolv 64 1 20) Tryz.prog {} 1 64 1 loopA1 (sAj f H W a R j) (endK 1 64 (fun n => hasN [2, 6, 7, 8] n) (fun n => hasN [6, 7] n)) = some (.normal, sAj f H W a R (j + 1)) := by
  obtain ⟨hl, hs, hc⟩ := hR
  have hb : ∀ n, n ≤ 1000 → bV n (arL f a R n) = true := fun n hn => by unfold bV roomB; rw [arL_len]; simp; omega
  have h3 : ∀ j : Nat, 0 < a → ∀ x ∈ [(a : Int) != 0, ixN (rI a j) a, inR (rI a j) R], x = true := fun j h0 => by
    have := Nat.mod_lt j h0
    rw [rI_nat]
    exact all3' (bne_iff_ne.2 (by omega)) (ixN_nat this) (inR_nat (by omega))
  by_cases h0 : a = 0
  · subst h0
    have z0 : (((0 : Nat) : Int) == 0) = true := rfl
    cases j with
    | zero =>
      rw [sAj, rA0, hN, bcT (decide_eq_true (by omega)), bcT z0]; rfl
    | succ j =>
      rw [sAj, rA1, hN, bcT (decide_eq_true (by omega)), bcT z0, chks_true (by simpa using hb (j + 1) (by omega)), up1_nat (by omega)]
      rw [show zR = arJ f 0 R (j + 1) from rfl, arL_succ]; rfl
  · have ha : 0 < a := by omega
    have eJ : ∀ i, nrm (rvF f (Sx.rowAt R (i % a))) = arJ f a R i := fun i => by unfold arJ; rw [show Nat.beq a 0 = false from Bool.eq_false_iff.2 fun e => h0 (beqT.1 e)]; rfl
    cases j with
    | zero =>
      have h3' := h3 0 ha
      rw [sAj, rA0, hN, bcT (decide_eq_true (by omega)), bcF (beq_eq_false_iff_ne.2 (by omega))]
      rw [show rI a ((0 : Nat) : Int) = ((0 % a : Nat) : Int) from rfl] at h3'
      rw [show rI a 0 = ((0 % a : Nat) : Int) from rfl, chks_true h3', Int.toNat_natCast, chks_true (hc _ (Nat.mod_lt _ ha)), eJ 0]; rfl
    | succ j =>
      rw [sAj, rA1, hN, bcT (decide_eq_true (by omega)), bcF (beq_eq_false_iff_ne.2 (by omega)), chks_true (h3 (j + 1) ha), rI_nat, Int.toNat_natCast, chks_true (hc _ (Nat.mod_lt _ ha)), chks_true (by simpa using hb (j + 1) (by omega)), up1_nat (by omega), eJ (j + 1), arL_succ]; rfl
theorem loopA (hf : EntOK Tryz.prog 12 (eVal f)) (hR : okW a R) (hN : w64 (H * W) = (N : Int)) (h1 : 1 ≤ N ∧ N ≤ 1000) : Tri Tryz.prog (.loop loopA1) (sA H W a R .nilslice [] 0).toA (.exit 0) (sAX H W R (.vec 3 N) [some (vR34 (arL f a R N))]).toA 1 := by
  have key := loop_rounds (ent_sound (T := tAr f) (.cons ePick_ok (.cons hf .nil)) host nolv_ok (NF := 64) (m := 1) 20) (NF := 64) (m := 1) (x := loopA1) (K := 1) loops_none (fun n => hasN [2, 6, 7, 8] n) (fun n => hasN [6, 7] n) (ι := { j : Nat // j ≤ N }) (fun j => sAj f H W a R j.1) (fun j => N - j.1) (fun j => (.exit 0, sAX H W R (.vec 3 N) [some (vR34 (arL f a R N))])) ?_ (fun j => by simp) ⟨0, Nat.zero_le _⟩
  · exact key
  rintro ⟨j, hj⟩
  simp only
  by_cases hl : j < N
  · exact .inl ⟨⟨j + 1, hl⟩, by simp only; omega, trivial, roundA hR hN h1.2 j hl⟩
  · obtain rfl : j = N := by omega
    cases j with
    | zero => omega
    | succ j =>
      right
      rw [sAj, rA1, hN, bcF (decide_eq_false (by omega))]
end
/-- How many rows, or columns, are asked for. -/
abbrev sz5 (h : Int) : Int := 1 + pickS h 5
def nA (h w : Int) : Nat := (sz5 h * sz5 w).toNat
open Classical in
noncomputable def eArr (f : FV) : Ent := fun args pre => match args, pre with
  | [.int .i64 h, .int .i64 w, .dsl j a], [.raw (.flatR m sh R)] => .chk (Nat.beq j 0 && shEq sh shW && !m) (.chk (inI h) (.chk (inI w) (.chk (decide (okW a R)) (.ret (vL 5 0 0 [] false 0 (sz5 h) (sz5 w) (.vec 1 (nA h w)) 0) [.raw (.flatR m sh R), vR34 (arL f a R (nA h w))]))))
  | _, _ => .fail
theorem nA_bd (h w : Int) : ((nA h w : Nat) : Int) = sz5 h * sz5 w ∧ 1 ≤ nA h w ∧ nA h w ≤ 25 := by
  have h1 := pickS_bd (a := h) (n := 5) (by decide)
  have h2 := pickS_bd (a := w) (n := 5) (by decide)
  have a1 : 1 ≤ sz5 h * sz5 w := Int.mul_pos (a := sz5 h) (by unfold sz5; omega) (by unfold sz5; omega)
  have a2 : sz5 h * sz5 w ≤ 5 * 5 := Int.mul_le_mul (by unfold sz5; omega) (by unfold sz5; omega) (by unfold sz5; omega) (by omega)
  unfold nA
  omega
open Classical in
theorem eArr_ok {f : FV} (hf : EntOK Tryz.prog 12 (eVal f)) : EntOK Tryz.prog 13 (eArr f) := fun args pre => by
  unfold eArr
  split
  · rename_i h w j a m sh R
    refine ⟨fun g0 => ⟨fun g1 => ⟨fun g2 => ⟨fun g3 => ?_, fun _ => trivial⟩, fun _ => trivial⟩, fun _ => trivial⟩, fun _ => trivial⟩
    rw [Bool.and_eq_true, Bool.and_eq_true, beqT] at g0
    obtain ⟨⟨rfl, g⟩, gm⟩ := g0
    obtain rfl := shEq_of g
    cases m with
    | true => cases gm
    | false =>
    have g3 := of_decide_eq_true g3
    obtain ⟨n1, n2, n3⟩ := nA_bd h w
    have h1 := pickS_bd (a := h) (n := 5) (by decide)
    have h2 := pickS_bd (a := w) (n := 5) (by decide)
    have e1 : w64 (1 + pickS h 5) = sz5 h := w64_of (inI_iff.2 ⟨by omega, by omega⟩)
    have e2 : w64 (1 + pickS w 5) = sz5 w := w64_of (inI_iff.2 ⟨by omega, by omega⟩)
    have key := ar_comes a R h w (nA h w) true (arL f a R (nA h w))
    rw [e1, e2] at key
    refine meets_ent (T := [(24, ePick)]) (pre := [fW R]) (post := [fW R, vR34 (arL f a R (nA h w))]) (.cons ePick_ok .nil) host (key.trans (by rw [chkT g1, chkT g2, chkT (eqSt_refl _), chkT rfl]; rfl)) (lvOne_ok (x := loopA1) Tryz.func13 (by kernel_rfl) fun K t => eAt_ok (a := outA (sz5 h) (sz5 w) R (nA h w) true (arL f a R (nA h w))) ⟨fun _ => loopA hf g3 (by rw [w64_of (inI_iff.2 ⟨by omega, by omega⟩), n1]) ⟨n2, by omega⟩, fun _ => trivial⟩ K t)
  · trivial
end Go.Proofs.YtdomenmfkbfakaaGreatDoor

/- Layer 3: what is told of a value, by functions that tell of plain ones: the rounds. -/
set_option linter.unusedVariables false
set_option linter.unusedSimpArgs false
namespace Go.Proofs.YtdomenmfkbfakaaGreatDoor
open Go Sx
/-- A function that tells of a plain value, not looked into: of which values, and what. -/
def eAsk (q : List CV → Bool) (af : List CV → List CV) : Ent := fun args pre => match args, pre with
  | [.agg [.int .i64 k, .int .i64 m, .int .i64 e, .str s, .bool b, .int .i64 r, .int .i64 h, .int .i64 w, .nilslice, .int .i64 f, .nilslice, .nilslice]], [] => .chk (q (mkR k m e s b r h w f)) (.ret (vR (af (mkR k m e s b r h w f))) [])
  | _, _ => .fail

-- ToNum
section
variable (af : List CV → List CV) (q : List CV → Bool) (m e : Int) (s : List UInt8) (b : Bool) (r h w f : Int) (a : Nat) (R L : List (List CV))
end

-- ToText
section
variable (af : List CV → List CV) (q : List CV → Bool) (m e : Int) (s : List UInt8) (b : Bool) (r h w f : Int) (a : Nat) (R L : List (List CV))
end

-- ToBool
section
variable (af : List CV → List CV) (q : List CV → Bool) (m e : Int) (s : List UInt8) (b : Bool) (r h w f : Int) (a : Nat) (R L : List (List CV))
end
end Go.Proofs.YtdomenmfkbfakaaGreatDoor

/- Layer 3: what is told of a value, by functions that tell of plain ones: what comes of it. -/
set_option linter.unusedVariables false
set_option linter.unusedSimpArgs false
namespace Go.Proofs.YtdomenmfkbfakaaGreatDoor
open Go Sx
def rowA (x : List CV) : Ans := .ret (vR x) []
def okD (q : List CV → Bool) (a : Nat) (R : List (List CV)) : Prop := a ≤ R.length ∧ a < 1000000000 ∧ ∀ i, i < a → (rk (Sx.rowAt R i) == 4) = true ∨ q (nrm (Sx.rowAt R i)) = true

-- ToNum
section
variable (af : List CV → List CV) (q : List CV → Bool) (tx : List UInt8 → Bool) (k m e : Int) (s : List UInt8) (b : Bool) (r h w f : Int) (a : Nat) (R L : List (List CV))
end
section
variable {af : List CV → List CV} {q : List CV → Bool} {m e : Int} {s : List UInt8} {b : Bool} {r h w f : Int} {a : Nat} {R : List (List CV)}
end

-- ToText
section
variable (af : List CV → List CV) (q : List CV → Bool) (tx : List UInt8 → Bool) (k m e : Int) (s : List UInt8) (b : Bool) (r h w f : Int) (a : Nat) (R L : List (List CV))
end
section
variable {af : List CV → List CV} {q : List CV → Bool} {m e : Int} {s : List UInt8} {b : Bool} {r h w f : Int} {a : Nat} {R : List (List CV)}
end

-- ToBool
section
variable (af : List CV → List CV) (q : List CV → Bool) (tx : List UInt8 → Bool) (k m e : Int) (s : List UInt8) (b : Bool) (r h w f : Int) (a : Nat) (R L : List (List CV))
end
section
variable {af : List CV → List CV} {q : List CV → Bool} {m e : Int} {s : List UInt8} {b : Bool} {r h w f : Int} {a : Nat} {R : List (List CV)}
end
end Go.Proofs.YtdomenmfkbfakaaGreatDoor

/- Layer 3: what is told of a value: entries. -/
set_option linter.unusedVariables false
set_option linter.unusedSimpArgs false
set_option linter.unusedSectionVars false
namespace Go.Proofs.YtdomenmfkbfakaaGreatDoor
open Go Sx

-- ToNum
section
variable {tx : List UInt8 → Bool} {af : List CV → List CV} {q : List CV → Bool} (ht : EntOK Tryz.prog 51 (eIsT tx)) (hq : EntOK Tryz.prog 72 (eAsk q af))
include ht hq
end

-- ToText
section
variable {tx : List UInt8 → Bool} {af : List CV → List CV} {q : List CV → Bool} (ht : EntOK Tryz.prog 51 (eIsT tx)) (hq : EntOK Tryz.prog 74 (eAsk q af))
include ht hq
end

-- ToBool
section
variable {tx : List UInt8 → Bool} {af : List CV → List CV} {q : List CV → Bool} (ht : EntOK Tryz.prog 51 (eIsT tx)) (hq : EntOK Tryz.prog 76 (eAsk q af))
include ht hq
end
end Go.Proofs.YtdomenmfkbfakaaGreatDoor

/- Layer 3: ToNum, ToText, ToBool. -/
set_option linter.unusedVariables false
set_option linter.unusedSimpArgs false
set_option linter.unusedSectionVars false
namespace Go.Proofs.YtdomenmfkbfakaaGreatDoor
open Go Sx

-- ToNum
section
variable {tx : List UInt8 → Bool} {af : List CV → List CV} {q : List CV → Bool} (ht : EntOK Tryz.prog 51 (eIsT tx)) (hq : EntOK Tryz.prog 72 (eAsk q af))
include ht hq
end
section
variable {tx : List UInt8 → Bool} {af : List CV → List CV} {q : List CV → Bool} (ht : EntOK Tryz.prog 51 (eIsT tx)) (hq : EntOK Tryz.prog 72 (eAsk q af))
include ht hq
end

-- ToText
section
variable {tx : List UInt8 → Bool} {af : List CV → List CV} {q : List CV → Bool} (ht : EntOK Tryz.prog 51 (eIsT tx)) (hq : EntOK Tryz.prog 74 (eAsk q af))
include ht hq
end
section
variable {tx : List UInt8 → Bool} {af : List CV → List CV} {q : List CV → Bool} (ht : EntOK Tryz.prog 51 (eIsT tx)) (hq : EntOK Tryz.prog 74 (eAsk q af))
include ht hq
end

-- ToBool
section
variable {tx : List UInt8 → Bool} {af : List CV → List CV} {q : List CV → Bool} (ht : EntOK Tryz.prog 51 (eIsT tx)) (hq : EntOK Tryz.prog 76 (eAsk q af))
include ht hq
end
section
variable {tx : List UInt8 → Bool} {af : List CV → List CV} {q : List CV → Bool} (ht : EntOK Tryz.prog 51 (eIsT tx)) (hq : EntOK Tryz.prog 76 (eAsk q af))
include ht hq
end
end Go.Proofs.YtdomenmfkbfakaaGreatDoor

/- Layer 3: what is told of a plain value as a number, a truth, a text: over dec.Read, letters.Small, dec.Text, not looked into. -/
set_option linter.unusedVariables false
set_option linter.unusedSimpArgs false
namespace Go.Proofs.YtdomenmfkbfakaaGreatDoor
open Go Sx
def nmR (m e : Int) : List CV := mkR 1 m e [] false 0 0 0 0
def txR (s : List UInt8) : List CV := mkR 2 0 0 s false 0 0 0 0
def trR (b : Bool) : List CV := mkR 3 0 0 [] b 0 0 0 0
section
variable (rd : List UInt8 → Int × Int × Int) (sm : List UInt8 → List UInt8) (dt : Int → Int → List UInt8) (k m e : Int) (s : List UInt8) (b : Bool) (r h w f : Int)
end
end Go.Proofs.YtdomenmfkbfakaaGreatDoor

/- Layer 3: small letters in the place of great ones: letters.Small of any text. -/
set_option linter.unusedVariables false
set_option linter.unusedSimpArgs false
namespace Go.Proofs.YtdomenmfkbfakaaGreatDoor
open Go Sx
theorem sb_comes (c : Int) : Comes [] nolv 97 [.int .u8 c] [] (.br (decide (c ≥ 65)) (.br (decide (c ≤ 90)) (.ret (.int .u8 (IntKind.u8.wrap (IntKind.u8.wrap (c - 65) + 97))) []) (.ret (.int .u8 c) [])) (.ret (.int .u8 c) [])) := by unfold Comes; kernel_rfl
def sbI (c : Int) : Int := bcond (decide (65 ≤ c ∧ c ≤ 90)) (c + 32) c
def eSb (g : Int → Int) : Ent := fun args pre => match args, pre with
  | [.int .u8 c], [] => .chk (decide (0 ≤ c ∧ c < 256)) (.ret (.int .u8 (g c)) [])
  | _, _ => .fail
theorem eSb_ok : EntOK Tryz.prog 97 (eSb sbI) := fun args pre => by
  unfold eSb
  split
  · rename_i c
    refine ⟨fun g => ?_, fun _ => trivial⟩
    have g := of_decide_eq_true g
    refine meets_ent (pre := []) (post := []) .nil host ((sb_comes c).trans ?_) nolv_ok
    unfold sbI
    by_cases h1 : c ≥ 65
    · rw [brT (decide_eq_true h1)]
      by_cases h2 : c ≤ 90
      · rw [brT (decide_eq_true h2), decide_eq_true (show 65 ≤ c ∧ c ≤ 90 from ⟨h1, h2⟩), u8_in (n := c - 65) (by omega) (by omega), u8_in (by omega) (by omega), show c - 65 + 97 = c + 32 by omega]; rfl
      · rw [brF (decide_eq_false h2), decide_eq_false (fun h => h2 h.2)]; rfl
    · rw [brF (decide_eq_false h1), decide_eq_false (fun h => h1 h.1)]; rfl
  · trivial
end Go.Proofs.YtdomenmfkbfakaaGreatDoor

/- Layer 3: the order of numbers, of texts. -/
set_option linter.unusedVariables false
set_option linter.unusedSimpArgs false
set_option linter.unusedSectionVars false
namespace Go.Proofs.YtdomenmfkbfakaaGreatDoor
open Go Sx
/-- The order of two numbers. -/
def cmI (x y : Int) : Int := bcond (decide (x < y)) (-1) (bcond (decide (x > y)) 1 0)
def iT (n : Int) : Ans := .ret (.int .i64 n) []
def cmT (x y : Int) : Ans := .br (x != x) (.br (y != y) (iT 0) (iT (-1))) (.br (y != y) (iT 1) (.br (decide (x < y)) (iT (-1)) (.br (decide (x > y)) (iT 1) (iT 0))))
theorem cmi_comes (x y : Int) : Comes [] nolv 106 [.int .i64 x, .int .i64 y] [] (cmT x y) := by unfold Comes; kernel_rfl
theorem cmb_comes (x y : Int) : Comes [] nolv 133 [.int .u8 x, .int .u8 y] [] (cmT x y) := by unfold Comes; kernel_rfl
theorem cmT_run (x y : Int) : (cmT x y).run pure2 = pure2 (.int .i64 (cmI x y)) [] := by
  unfold cmT cmI
  rw [brF (show (x != x) = false by simp), brF (show (y != y) = false by simp)]
  cases decide (x < y) with
  | true => rfl
  | false => cases decide (x > y) <;> rfl
def eCm (g : Int → Int → Int) : Ent := fun args pre => match args, pre with
  | [.int .i64 a, .int .i64 b], [] => .ret (.int .i64 (g a b)) []
  | _, _ => .fail
def eCb (g : Int → Int → Int) : Ent := fun args pre => match args, pre with
  | [.int .u8 a, .int .u8 b], [] => .ret (.int .i64 (g a b)) []
  | _, _ => .fail
theorem eCm_ok : EntOK Tryz.prog 106 (eCm cmI) := fun args pre => by
  unfold eCm
  split
  · exact meets_ent (pre := []) (post := []) .nil host ((cmi_comes _ _).trans (cmT_run _ _)) nolv_ok
  · trivial
theorem eCb_ok : EntOK Tryz.prog 133 (eCb cmI) := fun args pre => by
  unfold eCb
  split
  · exact meets_ent (pre := []) (post := []) .nil host ((cmb_comes _ _).trans (cmT_run _ _)) nolv_ok
  · trivial
-- texts
def mnI (s t : List UInt8) : Int := if (t.length : Int) < (s.length : Int) then (t.length : Int) else (s.length : Int)
def sOt (s t : List UInt8) (i : Int) : PState := ⟨some (.str s) :: some (.str t) :: none :: none :: some (.int .i64 0) :: (nn 6 ++ some (.int .i64 (mnI s t)) :: some (.int .i64 i) :: nn 20), nn 64⟩
def sOtX (s t : List UInt8) (c : Int) : PState := ⟨some (.str s) :: some (.str t) :: none :: none :: some (.int .i64 c) :: nn 28, nn 64⟩
noncomputable abbrev loopOt : Code := (loopBodies (bodyOf Tryz.f108)).headD .skip
def inT (s : List UInt8) (i : Int) : Bool := decide (0 ≤ i ∧ i.toNat < s.length)
def b8 (c : Int) : Bool := decide (0 ≤ c ∧ c < 256)
def tOt (g : Int → Int → Int) (g1 : Int → Int) : Tab := [(133, eCb g), (97, eSb g1)]
def ccT (g : Int → Int → Int) (g1 : Int → Int) (s t : List UInt8) (i : Int) : Int := g (g1 (byteAt s i.toNat)) (g1 (byteAt t i.toNat))
theorem rOt (g : Int → Int → Int) (g1 : Int → Int) (s t : List UInt8) (i : Int) : code (ent Tryz.prog (tOt g g1) nolv 64 1 20) Tryz.prog {} 0 64 1 loopOt (sOt s t i) (endK 0 64 (fun n => hasN [0, 1, 4, 11, 12] n) (fun n => hasN [0, 1, 4] n))
  = bcond (decide (i < mnI s t)) (chks (chks (chks (chks (bcond (ccT g g1 s t i != 0) (some (.ret, sOtX s t (ccT g g1 s t i))) (some (.normal, sOt s t (up1 i)))) [b8 (byteAt t i.toNat)]) [inT t i]) [b8 (byteAt s i.toNat)]) [inT s i]) (some (.exit 0, sOtX s t 0)) := by kernel_rfl
/-- The order of two texts, small letters in the place of great ones. -/
def otF : List UInt8 → List UInt8 → Int
  | [], [] => 0
  | [], _ :: _ => -1
  | _ :: _, [] => 1
  | x :: a, y :: b => bcond (cmI (sbI x.toNat) (sbI y.toNat) != 0) (cmI (sbI x.toNat) (sbI y.toNat)) (otF a b)
/-- Which byte tells, if one does. -/
def otG : List UInt8 → List UInt8 → Int
  | x :: a, y :: b => bcond (cmI (sbI x.toNat) (sbI y.toNat) != 0) (cmI (sbI x.toNat) (sbI y.toNat)) (otG a b)
  | _, _ => 0
theorem otF_G : ∀ a b : List UInt8, otF a b = bcond (otG a b != 0) (otG a b) (cmI a.length b.length)
  | [], [] => rfl
  | [], y :: b => by
    show (-1 : Int) = cmI 0 ((y :: b).length : Int)
    unfold cmI; rw [decide_eq_true (by rw [List.length_cons]; omega)]; rfl
  | x :: a, [] => by
    show (1 : Int) = cmI ((x :: a).length : Int) 0
    unfold cmI; rw [decide_eq_false (by omega), decide_eq_true (by rw [List.length_cons]; omega)]; rfl
  | x :: a, y :: b => by
    have ih := otF_G a b
    rw [otF, otG]
    cases h : cmI (sbI x.toNat) (sbI y.toNat) != 0 with
    | true => show _ = bcond (cmI (sbI x.toNat) (sbI y.toNat) != 0) _ _; rw [h]; rfl
    | false =>
      show otF a b = bcond (otG a b != 0) (otG a b) (cmI ((x :: a).length : Int) ((y :: b).length : Int))
      rw [ih]
      congr 1
      unfold cmI
      rw [List.length_cons, List.length_cons, show decide ((a.length : Int) < b.length) = decide (((a.length + 1 : Nat) : Int) < ((b.length + 1 : Nat) : Int)) from decide_eq_decide.2 (by omega), show decide ((a.length : Int) > b.length) = decide (((a.length + 1 : Nat) : Int) > ((b.length + 1 : Nat) : Int)) from decide_eq_decide.2 (by omega)]
theorem mnI_eq (s t : List UInt8) : mnI s t = ((min s.length t.length : Nat) : Int) := by unfold mnI; split <;> omega
theorem otG_end {s t : List UInt8} {p : Nat} (h : min s.length t.length ≤ p) : otG (s.drop p) (t.drop p) = 0 := by
  rcases Nat.lt_or_ge p s.length with h1 | h1
  · rw [List.drop_of_length_le (l := t) (by omega)]
    cases s.drop p <;> rfl
  · rw [List.drop_of_length_le h1]; rfl
theorem byteAt_at {s : List UInt8} {p : Nat} (h : p < s.length) : byteAt s p = (s[p].toNat : Int) := by
  show ((s.getD p 0).toNat : Int) = _
  rw [List.getD_eq_getElem?_getD, List.getElem?_eq_getElem h]; rfl
theorem loopO {s t : List UInt8} (hs : s.length < 1000000) : Tri Tryz.prog (.loop loopOt) (sOt s t 0).toA (bcond (otG s t != 0) .ret (.exit 0)) (sOtX s t (otG s t)).toA 0 := by
  have key := loop_rounds (ent_sound (T := tOt cmI sbI) (.cons eCb_ok (.cons eSb_ok .nil)) host nolv_ok (NF := 64) (m := 1) 20) (NF := 64) (m := 1) (x := loopOt) (K := 0) loops_none (fun n => hasN [0, 1, 4, 11, 12] n) (fun n => hasN [0, 1, 4] n) (ι := { p : Nat // p ≤ min s.length t.length ∧ otG (s.drop p) (t.drop p) = otG s t }) (fun p => sOt s t (p.1 : Int)) (fun p => min s.length t.length - p.1) (fun p => (bcond (otG s t != 0) .ret (.exit 0), sOtX s t (otG s t))) ?_ (fun p => by cases otG s t != 0 <;> simp [bcond]) ⟨0, Nat.zero_le _, rfl⟩
  · exact key
  rintro ⟨p, hp, he⟩
  simp only
  have rd := rOt cmI sbI s t (p : Int)
  by_cases h : p < min s.length t.length
  · have h1 : p < s.length := by omega
    have h2 : p < t.length := by omega
    have w1 : byteAt s (p : Int).toNat = (s[p].toNat : Int) := byteAt_at h1
    have w2 : byteAt t (p : Int).toNat = (t[p].toNat : Int) := byteAt_at h2
    have c1 : b8 ((s[p].toNat : Nat) : Int) = true := decide_eq_true ⟨by omega, by have := UInt8.toNat_lt s[p]; omega⟩
    have c2 : b8 ((t[p].toNat : Nat) : Int) = true := decide_eq_true ⟨by omega, by have := UInt8.toNat_lt t[p]; omega⟩
    rw [bcT (decide_eq_true (by rw [mnI_eq]; omega)), chks_true (all1 (show inT s (p : Int) = true from decide_eq_true ⟨by omega, h1⟩)), w1, chks_true (all1 c1), chks_true (all1 (show inT t (p : Int) = true from decide_eq_true ⟨by omega, h2⟩)), w2, chks_true (all1 c2), up1_nat (by omega)] at rd
    have ec : ccT cmI sbI s t (p : Int) = cmI (sbI s[p].toNat) (sbI t[p].toNat) := by unfold ccT; rw [w1, w2]
    rw [ec] at rd
    have hd : otG (s.drop p) (t.drop p) = bcond (cmI (sbI s[p].toNat) (sbI t[p].toNat) != 0) (cmI (sbI s[p].toNat) (sbI t[p].toNat)) (otG (s.drop (p + 1)) (t.drop (p + 1))) := by
      rw [List.drop_eq_getElem_cons h1, List.drop_eq_getElem_cons h2]; rfl
    cases hc : cmI (sbI s[p].toNat) (sbI t[p].toNat) != 0 with
    | true =>
      rw [hc] at rd hd
      have : otG s t = cmI (sbI s[p].toNat) (sbI t[p].toNat) := he.symm.trans hd
      rw [← this] at rd hc
      right
      rw [rd, hc]; rfl
    | false =>
      rw [hc] at rd hd
      exact .inl ⟨⟨p + 1, by omega, hd.symm.trans he⟩, by simp only; omega, trivial, rd⟩
  · rw [bcF (decide_eq_false (by rw [mnI_eq]; omega))] at rd
    have : otG s t = 0 := he.symm.trans (otG_end (by omega))
    rw [this]
    exact .inr rd
def outOt (s t : List UInt8) (c : Bool) (g : Int) : LAns := .chk c (.br (g != 0) (.out .ret (sOtX s t g)) (.out (.exit 0) (sOtX s t 0)))
noncomputable def lvOt (s t : List UInt8) (c : Bool) (g : Int) : FuncId → Lv := lvOf 108 (fun _ => some [0, 1, 4, 11, 12]) (oneL 2 (eAt 0 (sOt s t 0) (outOt s t c g)))
theorem ot_comes (gi : Int → Int → Int) (s t : List UInt8) (c : Bool) (g : Int) : Comes [(106, eCm gi)] (lvOt s t c g) 108 [.str s, .str t] [] (.chk (eqSt (sOt s t 0) (sOt s t 0)) (.chk c (.br (g != 0) (iT g) (iT (gi (s.length : Int) (t.length : Int)))))) := by unfold Comes; kernel_rfl
def eOt (g : List UInt8 → List UInt8 → Int) : Ent := fun args pre => match args, pre with
  | [.str s, .str t], [] => .chk (decide (s.length < 1000000)) (.ret (.int .i64 (g s t)) [])
  | _, _ => .fail
theorem eOt_ok : EntOK Tryz.prog 108 (eOt otF) := fun args pre => by
  unfold eOt
  split
  · rename_i s t
    refine ⟨fun g => ?_, fun _ => trivial⟩
    have g := of_decide_eq_true g
    refine meets_ent (pre := []) (post := []) (.cons eCm_ok .nil) host ((ot_comes cmI s t true (otG s t)).trans ?_) (lvOne_ok (x := loopOt) Tryz.func108 (by kernel_rfl) fun K u => eAt_ok (a := outOt s t true (otG s t)) ?_ K u)
    · rw [chkT (eqSt_refl _), chkT rfl, otF_G]
      cases otG s t != 0 <;> rfl
    · refine ⟨fun _ => ?_, fun _ => trivial⟩
      have key := loopO (t := t) g
      refine ⟨fun h => ?_, fun h => ?_⟩
      · rw [h] at key; exact key
      · rw [h] at key
        have e : otG s t = 0 := by simpa [bne] using h
        rw [e] at key; exact key
  · trivial
end Go.Proofs.YtdomenmfkbfakaaGreatDoor

/- Layer 3: the order of plain values, of arrays. -/
set_option linter.unusedVariables false
set_option linter.unusedSimpArgs false
set_option linter.unusedSectionVars false
namespace Go.Proofs.YtdomenmfkbfakaaGreatDoor
open Go Sx
def eDc (g : Int → Int → Int → Int → Int) : Ent := fun args pre => match args, pre with
  | [.agg [.int .i64 m, .int .i64 e], .agg [.int .i64 m', .int .i64 e']], [] => .ret (.int .i64 (g m e m' e')) []
  | _, _ => .fail
theorem eDc_ok : EntOK Tryz.prog 107 (eDc Dq.cmpR) := fun args pre => by
  unfold eDc
  split
  · exact Dq.cmp_meets _ _ _ _
  · trivial
def eNo : Ent := fun _ _ => .fail
theorem eNo_ok (g : FuncId) : EntOK Tryz.prog g eNo := fun _ _ => trivial
section
variable (gi : Int → Int → Int) (gd : Int → Int → Int → Int → Int) (gt : List UInt8 → List UInt8 → Int) (k m e : Int) (s : List UInt8) (b : Bool) (r h w f k' m' e' : Int) (s' : List UInt8) (b' : Bool) (r' h' w' f' : Int)
def tOr : Tab := [(106, eCm gi), (107, eDc gd), (108, eOt gt), (109, eNo)]
def orT : Ans := .br (k != k') (iT (gi k k')) (.br (k == 1) (iT (gd m e m' e')) (.br (k == 2) (.chk (decide (s.length < 1000000)) (iT (gt s s'))) (.br (k == 3) (.br b (.br b' (iT (gi 1 1)) (iT (gi 1 0))) (.br b' (iT (gi 0 1)) (iT (gi 0 0)))) (.br (k == 4) (iT (gi r r')) (.br (k == 5) .fail (iT 0))))))
theorem or_comes : Comes (tOr gi gd gt) nolv 70 [vL k m e s b r h w .nilslice f, vL k' m' e' s' b' r' h' w' .nilslice f'] [] (orT gi gd gt k m e s b r k' m' e' s' b' r') := by unfold Comes; kernel_rfl
end
/-- The order of plain values. -/
def ordF (k m e : Int) (s : List UInt8) (b : Bool) (r k' m' e' : Int) (s' : List UInt8) (b' : Bool) (r' : Int) : Int :=
  bcond (k != k') (cmI k k') (bcond (k == 1) (Dq.cmpR m e m' e') (bcond (k == 2) (otF s s') (bcond (k == 3) (cmI (bcond b 1 0) (bcond b' 1 0)) (bcond (k == 4) (cmI r r') 0))))
abbrev ordR (x y : List CV) : Int := ordF (rk x) (rm x) (re x) (rs x) (rb x) (rr x) (rk y) (rm y) (re y) (rs y) (rb y) (rr y)
def eOrP (g : Int → Int → Int → List UInt8 → Bool → Int → Int → Int → Int → List UInt8 → Bool → Int → Int) : Ent := fun args pre => match args, pre with
  | [.agg [.int .i64 k, .int .i64 m, .int .i64 e, .str s, .bool b, .int .i64 r, .int .i64 h, .int .i64 w, .nilslice, .int .i64 f, .nilslice, .nilslice], .agg [.int .i64 k', .int .i64 m', .int .i64 e', .str s', .bool b', .int .i64 r', .int .i64 h', .int .i64 w', .nilslice, .int .i64 f', .nilslice, .nilslice]], [] =>
    .chk (decide (0 ≤ k ∧ k ≤ 4)) (.chk (decide (s.length < 1000000)) (.ret (.int .i64 (g k m e s b r k' m' e' s' b' r')) []))
  | _, _ => .fail
theorem eOrP_ok : EntOK Tryz.prog 70 (eOrP ordF) := fun args pre => by
  unfold eOrP
  split
  · rename_i k m e s b r h w f k' m' e' s' b' r' h' w' f'
    refine ⟨fun g1 => ⟨fun g2 => ?_, fun _ => trivial⟩, fun _ => trivial⟩
    refine meets_ent (pre := []) (post := []) (.cons eCm_ok (.cons eDc_ok (.cons eOt_ok (.cons (eNo_ok _) .nil)))) host ((or_comes cmI Dq.cmpR otF k m e s b r h w f k' m' e' s' b' r' h' w' f').trans ?_) nolv_ok
    have g1 := of_decide_eq_true g1
    unfold orT ordF
    cases k != k' with
    | true => rfl
    | false => cases k == 1 with
      | true => rfl
      | false => cases k == 2 with
        | true => rw [brF rfl, brF rfl, brT rfl, chkT g2]; rfl
        | false => cases k == 3 with
          | true => cases b <;> cases b' <;> rfl
          | false => cases k == 4 with
            | true => rfl
            | false => rw [brF rfl, brF rfl, brF rfl, brF rfl, brF rfl, brF (beq_eq_false_iff_ne.2 (by omega))]; rfl
  · trivial
-- arrays
noncomputable abbrev loopOg : Code := (loopBodies (bodyOf Tryz.f109)).headD .skip
def tOg (g : Int → Int → Int → List UInt8 → Bool → Int → Int → Int → Int → List UInt8 → Bool → Int → Int) : Tab := [(70, eOrP g)]
abbrev ordX (g : Int → Int → Int → List UInt8 → Bool → Int → Int → Int → Int → List UInt8 → Bool → Int → Int) (x y : List CV) : Int := g (rk x) (rm x) (re x) (rs x) (rb x) (rr x) (rk y) (rm y) (re y) (rs y) (rb y) (rr y)
def okC1 (x : List CV) : Bool := decide (0 ≤ rk x ∧ rk x ≤ 4)
def okC2 (x : List CV) : Bool := decide ((rs x).length < 1000000)
section
variable (g : Int → Int → Int → List UInt8 → Bool → Int → Int → Int → Int → List UInt8 → Bool → Int → Int) (m e : Int) (s : List UInt8) (b : Bool) (r f m' e' : Int) (s' : List UInt8) (b' : Bool) (r' f' : Int) (h w h' w' : Int) (a a' : Nat) (A B : List (List CV))
def sOg (i : Int) : PState := ⟨none :: none :: some (.ptr 2 0) :: some (.ptr 3 0) :: some (.int .i64 0) :: (nn 20 ++ some (.dsl 0 a) :: some (.int .i64 a) :: some (.int .i64 i) :: nn 15), some (fR A) :: some (fR B) :: some (vCells 5 m e s b r h w f (.dsl 0 a)) :: some (vCells 5 m' e' s' b' r' h' w' f' (.dsl 1 a')) :: nn 64⟩
def sOgX (c : Int) : PState := ⟨none :: none :: some (.ptr 2 0) :: some (.ptr 3 0) :: some (.int .i64 c) :: nn 38, some (fR A) :: some (fR B) :: some (vCells 5 m e s b r h w f (.dsl 0 a)) :: some (vCells 5 m' e' s' b' r' h' w' f' (.dsl 1 a')) :: nn 64⟩
theorem rOg (i : Int) : code (ent Tryz.prog (tOg g) nolv 64 1 20) Tryz.prog {} 2 64 1 loopOg (sOg m e s b r f m' e' s' b' r' f' h w h' w' a a' A B i) (endK 2 64 (fun n => hasN [2, 3, 4, 25, 26, 27] n) (fun n => hasN [2, 3, 4] n))
  = bcond (decide (i < (a : Int))) (chks (chks (chks (bcond (ordX g (Sx.rowAt A i.toNat) (Sx.rowAt B i.toNat) != 0) (some (.ret, sOgX m e s b r f m' e' s' b' r' f' h w h' w' a a' A B (ordX g (Sx.rowAt A i.toNat) (Sx.rowAt B i.toNat)))) (some (.normal, sOg m e s b r f m' e' s' b' r' f' h w h' w' a a' A B (up1 i))))
      [okC1 (Sx.rowAt A i.toNat), okC2 (Sx.rowAt A i.toNat)]) [ixN i a', inR i B]) [ixN i a, inR i A]) (some (.exit 0, sOgX m e s b r f m' e' s' b' r' f' h w h' w' a a' A B 0)) := by kernel_rfl
-- the same array twice
def sOs (i : Int) : PState := ⟨none :: none :: some (.ptr 1 0) :: some (.ptr 2 0) :: some (.int .i64 0) :: (nn 20 ++ some (.dsl 0 a) :: some (.int .i64 a) :: some (.int .i64 i) :: nn 15), some (fR A) :: some (vCells 5 m e s b r h w f (.dsl 0 a)) :: some (vCells 5 m e s b r h w f (.dsl 0 a)) :: nn 64⟩
def sOsX (c : Int) : PState := ⟨none :: none :: some (.ptr 1 0) :: some (.ptr 2 0) :: some (.int .i64 c) :: nn 38, some (fR A) :: some (vCells 5 m e s b r h w f (.dsl 0 a)) :: some (vCells 5 m e s b r h w f (.dsl 0 a)) :: nn 64⟩
theorem rOs (i : Int) : code (ent Tryz.prog (tOg g) nolv 64 1 20) Tryz.prog {} 1 64 1 loopOg (sOs m e s b r f h w a A i) (endK 1 64 (fun n => hasN [2, 3, 4, 25, 26, 27] n) (fun n => hasN [2, 3, 4] n))
  = bcond (decide (i < (a : Int))) (chks (chks (chks (bcond (ordX g (Sx.rowAt A i.toNat) (Sx.rowAt A i.toNat) != 0) (some (.ret, sOsX m e s b r f h w a A (ordX g (Sx.rowAt A i.toNat) (Sx.rowAt A i.toNat)))) (some (.normal, sOs m e s b r f h w a A (up1 i))))
      [okC1 (Sx.rowAt A i.toNat), okC2 (Sx.rowAt A i.toNat)]) [ixN i a, inR i A]) [ixN i a, inR i A]) (some (.exit 0, sOsX m e s b r f h w a A 0)) := by kernel_rfl
end
end Go.Proofs.YtdomenmfkbfakaaGreatDoor

/- Law 3: what is made of an array (ValMade): the rounds. -/
set_option linter.unusedVariables false
set_option linter.unusedSimpArgs false
namespace Go.Proofs.YtdomenmfkbfakaaGreatDoor
open Go Sx
section
variable (tx : List UInt8 → Bool) (H W n : Int) (N : Nat) (R L M : List (List CV))
end
end Go.Proofs.YtdomenmfkbfakaaGreatDoor

/- Law 3: what is made of an array (ValMade): the law. -/
set_option linter.unusedVariables false
set_option linter.unusedSimpArgs false
namespace Go.Proofs.YtdomenmfkbfakaaGreatDoor
open Go Sx
section
variable (tx : List UInt8 → Bool) (H W n : Int) (N : Nat) (R L M : List (List CV))
def fwB (b : Bool) : Ans := .ret (.bool b) [fW R]
end
end Go.Proofs.YtdomenmfkbfakaaGreatDoor

/- Law 3: what is made of an array (ValMade): it is so. -/
set_option linter.unusedVariables false
set_option linter.unusedSimpArgs false
namespace Go.Proofs.YtdomenmfkbfakaaGreatDoor
open Go Sx
theorem sameF_refl (k m e : Int) (s : List UInt8) (b : Bool) (r h w f : Int) : sameF k m e s b r h w f k m e s b r h w f = true := by unfold sameF; simp
theorem rigFrom_of {tx : List UInt8 → Bool} {R : List (List CV)} : ∀ (n i : Nat), (∀ j, i ≤ j → j < i + n → rigR tx (Sx.rowAt R j) = true) → rigFrom tx R n i = true
  | 0, _, _ => rfl
  | n + 1, i, h => by rw [rigFrom, h i (Nat.le_refl _) (by omega), rigFrom_of n (i + 1) fun j h1 h2 => h j (by omega) (by omega)]; rfl
theorem zR_ok : plR zR = true ∧ rigR isTx zR = true := ⟨by kernel_rfl, by kernel_rfl⟩
theorem arJ_ok (a : Nat) (R : List (List CV)) (i : Nat) : plR (arJ valR a R i) = true ∧ rigR isTx (arJ valR a R i) = true := by
  unfold arJ
  cases Nat.beq a 0 with
  | true => exact zR_ok
  | false => exact valR_ok _ _ _ _ _
section
variable {a : Nat} {R : List (List CV)} {N : Nat}
end
theorem sz5_bd (h : Int) : 1 ≤ sz5 h ∧ sz5 h ≤ 5 := by have := pickS_bd (a := h) (n := 5) (by decide); unfold sz5; omega
theorem div_400 {h w : Int} (h1 : 1 ≤ h ∧ h ≤ 5) (h2 : 1 ≤ w ∧ w ≤ 5) : w ≤ 400 / h := by
  have : h = 1 ∨ h = 2 ∨ h = 3 ∨ h = 4 ∨ h = 5 := by omega
  rcases this with rfl | rfl | rfl | rfl | rfl <;> omega
theorem grid_ok {h w : Int} {N : Nat} {L : List (List CV)} (h1 : 1 ≤ h ∧ h ≤ 5) (h2 : 1 ≤ w ∧ w ≤ 5) (hN : (N : Int) = h * w) (hr : rigFrom isTx L N 0 = true) : rightA isTx 0 0 [] false 0 h w 0 N L = true := by
  unfold rightA gridB
  rw [decide_eq_true ⟨h1.1, h2.1, div_400 h1 h2, hN⟩, hr]; rfl
section
variable {H W n : Int} {N : Nat} {R L M : List (List CV)} (h1 : 1 ≤ H ∧ H ≤ 5) (h2 : 1 ≤ W ∧ W ≤ 5) (hN : (N : Int) = H * W) (h25 : N ≤ 25) (h0 : 1 ≤ N) (hL : okRows N L) (hM : okRows N M) (rL : rigFrom isTx L N 0 = true) (rM' : rigFrom isTx M N 0 = true) (hs : ∀ i, i < N → samR (Sx.rowAt M i) (Sx.rowAt L i) = true)
include h1 h2 hN h25 h0 hL hM rL rM' hs
end
end Go.Proofs.YtdomenmfkbfakaaGreatDoor

/- Layer 3: dec.Read and dec.Text as entries; what is told of a plain value as a text. -/
set_option linter.unusedVariables false
set_option linter.unusedSimpArgs false
namespace Go.Proofs.YtdomenmfkbfakaaGreatDoor
open Go Sx
section
variable (dt : Int → Int → List UInt8) (k m e : Int) (s : List UInt8) (b : Bool) (r h w f : Int)
def sT4 : List UInt8 := [84, 82, 85, 69]
def sF5 : List UInt8 := [70, 65, 76, 83, 69]
end
def kT (k m e : Int) (s : List UInt8) (b : Bool) (t : List UInt8) : List CV := bcond (k == 1) (txR t) (bcond (k == 2) (txR s) (bcond (k == 3) (txR (bcond b sT4 sF5)) (txR [])))
end Go.Proofs.YtdomenmfkbfakaaGreatDoor

/- Layer 3: what is told of a value that is right is right. -/
set_option linter.unusedVariables false
set_option linter.unusedSimpArgs false
namespace Go.Proofs.YtdomenmfkbfakaaGreatDoor
open Go Sx
theorem rig_nm {m e : Int} (h : Dq.rightB m e = true) : rigR isTx (nmR m e) = true := by
  show (Dq.rightB m e && zF 0 0 [] false 0 0 0 0) = true
  rw [h]; rfl
theorem rig_tx {s : List UInt8} (h : isTx s = true) : rigR isTx (txR s) = true := by
  show (isTx s && zF 0 0 [] false 0 0 0 0) = true
  rw [h]; rfl
theorem rig_tr (b : Bool) : rigR isTx (trR b) = true := by cases b <;> rfl
theorem rig_err {n : Int} (h : 1 ≤ n ∧ n ≤ 9) : rigR isTx (errR n) = true := by
  show (decide (1 ≤ n ∧ n ≤ 9) && zF 0 0 [] false 0 0 0 0) = true
  rw [decide_eq_true h]; rfl
end Go.Proofs.YtdomenmfkbfakaaGreatDoor

/- Law 3: what is told of an array is told one by one (ValEach): the law's tree. -/
set_option linter.unusedVariables false
set_option linter.unusedSimpArgs false
namespace Go.Proofs.YtdomenmfkbfakaaGreatDoor
open Go Sx
section
variable (tx : List UInt8 → Bool) (H W i j : Int) (N : Nat) (L : List (List CV))
end
end Go.Proofs.YtdomenmfkbfakaaGreatDoor

/- Law 3: what is told of an array is told one by one (ValEach): it is so. -/
set_option linter.unusedVariables false
set_option linter.unusedSimpArgs false
set_option linter.unusedSectionVars false
namespace Go.Proofs.YtdomenmfkbfakaaGreatDoor
open Go Sx
theorem sameF_s {m e : Int} {s : List UInt8} {b : Bool} {r h w f : Int} (c : zF m e s b r h w f = true) : s = [] := by
  unfold zF sameF at c
  simp only [Bool.and_eq_true, beq_iff_eq] at c
  exact c.2.2.2.1
/-- What a plain value that is right is like. -/
theorem rightF_facts {k m e : Int} {s : List UInt8} {b : Bool} {r h w f : Int} (c : rightF isTx k m e s b r h w f = true) : (0 ≤ k ∧ k ≤ 4) ∧ s.length ≤ 200 ∧ (k = 1 → Dq.rightB m e = true) ∧ (k = 2 → isTx s = true) ∧ (k = 4 → 1 ≤ r ∧ r ≤ 9) := by
  unfold rightF at c
  split at c
  · rename_i hk; subst hk
    rw [sameF_s c]
    exact ⟨by decide, by simp, fun h => (by cases h), fun h => (by cases h), fun h => (by cases h)⟩
  split at c
  · rename_i _ hk; subst hk
    rw [Bool.and_eq_true] at c
    rw [sameF_s c.2]
    exact ⟨by decide, by simp, fun _ => c.1, fun h => (by cases h), fun h => (by cases h)⟩
  split at c
  · rename_i _ _ hk; subst hk
    rw [Bool.and_eq_true] at c
    have l := c.1
    unfold isTx at l
    rw [Bool.and_eq_true, decide_eq_true_eq] at l
    exact ⟨by decide, l.1, fun h => (by cases h), fun _ => c.1, fun h => (by cases h)⟩
  split at c
  · rename_i _ _ _ hk; subst hk
    rw [sameF_s c]
    exact ⟨by decide, by simp, fun h => (by cases h), fun h => (by cases h), fun h => (by cases h)⟩
  split at c
  · rename_i _ _ _ _ hk; subst hk
    rw [Bool.and_eq_true, decide_eq_true_eq] at c
    rw [sameF_s c.2]
    exact ⟨by decide, by simp, fun h => (by cases h), fun h => (by cases h), fun _ => c.1⟩
  · cases c
theorem plR_of {x : List CV} (h : rigR isTx x = true) : plR x = true := by
  have := rightF_facts h
  unfold plR
  rw [decide_eq_true this.1, decide_eq_true (show (rs x).length ≤ 1000000 by omega)]; rfl
/-- What is asked of a function that tells of plain values: it takes those that are right, and what it tells is right. -/
def afOk (af : List CV → List CV) (q : List CV → Bool) : Prop := ∀ x, rigR isTx x = true → rk x ≠ 4 → rigR isTx (af x) = true ∧ q x = true
section
variable {af : List CV → List CV} {q : List CV → Bool} (ha : afOk af q)
include ha
variable {H W : Int} {N : Nat} {L : List (List CV)} (h1 : 1 ≤ H ∧ H ≤ 5) (h2 : 1 ≤ W ∧ W ≤ 5) (hN : (N : Int) = H * W) (h25 : N ≤ 25) (hL : okRows N L) (rL : rigFrom isTx L N 0 = true)
include h1 h2 hN h25 hL rL
end
end Go.Proofs.YtdomenmfkbfakaaGreatDoor

/- Law 3: what is told of what is told (ValTwice): the law's tree. -/
set_option linter.unusedVariables false
set_option linter.unusedSimpArgs false
namespace Go.Proofs.YtdomenmfkbfakaaGreatDoor
open Go Sx
open Classical in
/-- Is a value right? It is. -/
noncomputable def eRigC (tx : List UInt8 → Bool) : Ent := fun args pre => match args, pre with
  | [.agg [.int .i64 k, .int .i64 m, .int .i64 e, .str s, .bool b, .int .i64 r, .int .i64 h, .int .i64 w, l, .int .i64 f, .nilslice, .nilslice]], [o] =>
    match rowsIn 0 l o with
    | some (a, R) => .chk (k == 5) (.chk (decide (okRows a R)) (.chk (rightA tx m e s b r h w f a R) (.ret (.bool true) [o])))
    | none => .fail
  | [.agg [.int .i64 k, .int .i64 m, .int .i64 e, .str s, .bool b, .int .i64 r, .int .i64 h, .int .i64 w, .nilslice, .int .i64 f, .nilslice, .nilslice]], [] =>
    .chk (decide (0 ≤ k ∧ k ≤ 4)) (.chk (decide (s.length ≤ 1000000)) (.chk (rightF tx k m e s b r h w f) (.ret (.bool true) [])))
  | _, _ => .fail
theorem eRigC_ok {tx : List UInt8 → Bool} (ht : EntOK Tryz.prog 51 (eIsT tx)) : EntOK Tryz.prog 27 (eRigC tx) := fun args pre => by
  have key := eRig_ok ht args pre
  unfold eRig at key
  unfold eRigC
  split
  · split
    · rename_i hs
      simp only [hs] at key
      refine ⟨fun g1 => ⟨fun g2 => ⟨fun g3 => ?_, fun _ => trivial⟩, fun _ => trivial⟩, fun _ => trivial⟩
      have := (key.1 g1).1 g2
      rw [g3] at this
      exact this
    · trivial
  · refine ⟨fun g1 => ⟨fun g2 => ⟨fun g3 => ?_, fun _ => trivial⟩, fun _ => trivial⟩, fun _ => trivial⟩
    have := (key.1 g1).1 g2
    rw [g3] at this
    exact this
  · trivial
section
variable (tx : List UInt8 → Bool)
variable (H W : Int) (N : Nat)
end
section
variable (f : FV) (tx : List UInt8 → Bool) (a1 a2 a3 : List CV → List CV) (q1 q2 q3 : List CV → Bool)
variable (k m e : Int) (s : List UInt8) (b : Bool) (a : Nat) (R : List (List CV))
end
end Go.Proofs.YtdomenmfkbfakaaGreatDoor

/- Law 3: what is told of what is told (ValTwice): the tree of a plain value. -/
set_option linter.unusedVariables false
set_option linter.unusedSimpArgs false
namespace Go.Proofs.YtdomenmfkbfakaaGreatDoor
open Go Sx
section
variable (f : FV) (tx : List UInt8 → Bool) (a1 a2 a3 : List CV → List CV) (q1 q2 q3 : List CV → Bool)
variable (k m e : Int) (s : List UInt8) (b : Bool) (a : Nat) (R : List (List CV))
end
end Go.Proofs.YtdomenmfkbfakaaGreatDoor

/- Law 3: what is told of what is told (ValTwice): the tree of an array. -/
set_option linter.unusedVariables false
set_option linter.unusedSimpArgs false
namespace Go.Proofs.YtdomenmfkbfakaaGreatDoor
open Go Sx
section
variable (f : FV) (tx : List UInt8 → Bool) (a1 a2 a3 : List CV → List CV) (q1 q2 q3 : List CV → Bool)
variable (k m e : Int) (s : List UInt8) (b : Bool) (a : Nat) (R : List (List CV))
end
end Go.Proofs.YtdomenmfkbfakaaGreatDoor

/- Law 3: what is told of what is told (ValTwice): it is so. -/
set_option linter.unusedVariables false
set_option linter.unusedSimpArgs false
set_option linter.unusedSectionVars false
namespace Go.Proofs.YtdomenmfkbfakaaGreatDoor
open Go Sx
/-- What is told as a number, as a text, as a truth. -/
def IsN (y : List CV) : Prop := (∃ m e, Dq.rightB m e = true ∧ y = nmR m e) ∨ ∃ n, (1 ≤ n ∧ n ≤ 9) ∧ y = errR n
def IsT (y : List CV) : Prop := (∃ s, isTx s = true ∧ y = txR s) ∨ ∃ n, (1 ≤ n ∧ n ≤ 9) ∧ y = errR n
def IsB (y : List CV) : Prop := (∃ b, y = trR b) ∨ ∃ n, (1 ≤ n ∧ n ≤ 9) ∧ y = errR n
theorem IsN.rig {y : List CV} (h : IsN y) : rigR isTx y = true := by
  rcases h with ⟨m, e, h, rfl⟩ | ⟨n, h, rfl⟩
  · exact rig_nm h
  · exact rig_err h
theorem IsT.rig {y : List CV} (h : IsT y) : rigR isTx y = true := by
  rcases h with ⟨s, h, rfl⟩ | ⟨n, h, rfl⟩
  · exact rig_tx h
  · exact rig_err h
theorem IsB.rig {y : List CV} (h : IsB y) : rigR isTx y = true := by
  rcases h with ⟨b, rfl⟩ | ⟨n, h, rfl⟩
  · exact rig_tr b
  · exact rig_err h
theorem IsN.nrm {y : List CV} (h : IsN y) : nrm y = y := by
  rcases h with ⟨m, e, h, rfl⟩ | ⟨n, h, rfl⟩ <;> rfl
theorem IsT.nrm {y : List CV} (h : IsT y) : Go.Proofs.YtdomenmfkbfakaaGreatDoor.nrm y = y := by
  rcases h with ⟨s, h, rfl⟩ | ⟨n, h, rfl⟩ <;> rfl
theorem IsB.nrm {y : List CV} (h : IsB y) : Go.Proofs.YtdomenmfkbfakaaGreatDoor.nrm y = y := by
  rcases h with ⟨s, rfl⟩ | ⟨n, h, rfl⟩ <;> rfl
-- plain
section
variable {af : List CV → List CV} {q : List CV → Bool} (ha : afOk af q)
include ha
end
-- arrays
section
variable {H W : Int} {N : Nat} (h1 : 1 ≤ H ∧ H ≤ 5) (h2 : 1 ≤ W ∧ W ≤ 5) (hN : (N : Int) = H * W) (h25 : N ≤ 25)
/-- Rows that are right. -/
def RigL (N : Nat) (M : List (List CV)) : Prop := N ≤ M.length ∧ ∀ j, j < N → rigR isTx (Sx.rowAt M j) = true
theorem RigL.okRows {M : List (List CV)} (h25 : N ≤ 25) (h : RigL N M) : Go.Proofs.YtdomenmfkbfakaaGreatDoor.okRows N M := ⟨h.1, by omega, fun j hj => plR_of (h.2 j hj)⟩
theorem RigL.rig {M : List (List CV)} (h : RigL N M) : rigFrom isTx M N 0 = true := rigFrom_of N 0 fun j _ hj => h.2 j (by omega)
include h1 h2 hN h25
end
end Go.Proofs.YtdomenmfkbfakaaGreatDoor

/- Layer 3: the order of values (val.Compare): the trees, the rounds. -/
set_option linter.unusedVariables false
set_option linter.unusedSimpArgs false
set_option linter.unusedSectionVars false
namespace Go.Proofs.YtdomenmfkbfakaaGreatDoor
open Go Sx
/-- The order of two lists of values, from a place on. -/
def ogF (A B : List (List CV)) : Nat → Nat → Int
  | 0, _ => 0
  | n + 1, i => bcond (ordR (Sx.rowAt A i) (Sx.rowAt B i) != 0) (ordR (Sx.rowAt A i) (Sx.rowAt B i)) (ogF A B n (i + 1))
theorem okC_of {x : List CV} (h : rigR isTx x = true) : ∀ c ∈ [okC1 x, okC2 x], c = true := by
  have c := rightF_facts h
  exact all2 (decide_eq_true c.1) (decide_eq_true (by omega))
section
variable {m e : Int} {s : List UInt8} {b : Bool} {r f m' e' : Int} {s' : List UInt8} {b' : Bool} {r' f' : Int} {h w h' w' : Int} {a : Nat} {A B : List (List CV)}
theorem loopOG (ha : a < 1000000000) (hA : RigL a A) (hB : a ≤ B.length) : Tri Tryz.prog (.loop loopOg) (sOg m e s b r f m' e' s' b' r' f' h w h' w' a a A B 0).toA (bcond (ogF A B a 0 != 0) .ret (.exit 0)) (sOgX m e s b r f m' e' s' b' r' f' h w h' w' a a A B (ogF A B a 0)).toA 2 := by
  have key := loop_rounds (ent_sound (T := tOg ordF) (.cons eOrP_ok .nil) host nolv_ok (NF := 64) (m := 1) 20) (NF := 64) (m := 1) (x := loopOg) (K := 2) loops_none (fun n => hasN [2, 3, 4, 25, 26, 27] n) (fun n => hasN [2, 3, 4] n) (ι := { p : Nat // p ≤ a ∧ ogF A B (a - p) p = ogF A B a 0 }) (fun p => sOg m e s b r f m' e' s' b' r' f' h w h' w' a a A B (p.1 : Int)) (fun p => a - p.1) (fun p => (bcond (ogF A B a 0 != 0) .ret (.exit 0), sOgX m e s b r f m' e' s' b' r' f' h w h' w' a a A B (ogF A B a 0))) ?_ (fun p => by cases ogF A B a 0 != 0 <;> simp [bcond]) ⟨0, Nat.zero_le _, rfl⟩
  · exact key
  rintro ⟨p, hp, he⟩
  simp only
  have rd := rOg ordF m e s b r f m' e' s' b' r' f' h w h' w' a a A B (p : Int)
  by_cases hl : p < a
  · have i1 : ixN (p : Int) a = true := ixN_nat hl
    rw [bcT (decide_eq_true (by omega)), chks_true (all2 i1 (inR_nat (by have := hA.1; omega))), chks_true (all2 i1 (inR_nat (by omega))), Int.toNat_natCast, chks_true (okC_of (hA.2 p hl)), up1_nat (by omega)] at rd
    have hd : ogF A B (a - p) p = bcond (ordR (Sx.rowAt A p) (Sx.rowAt B p) != 0) (ordR (Sx.rowAt A p) (Sx.rowAt B p)) (ogF A B (a - (p + 1)) (p + 1)) := by
      rw [show a - p = (a - (p + 1)) + 1 by omega]; rfl
    cases hc : ordR (Sx.rowAt A p) (Sx.rowAt B p) != 0 with
    | true =>
      rw [hc] at hd
      have ec : ordX ordF (Sx.rowAt A p) (Sx.rowAt B p) = ogF A B a 0 := (he.symm.trans hd).symm
      have hc' : (ogF A B a 0 != 0) = true := by rw [← ec]; exact hc
      rw [ec, hc'] at rd
      right
      rw [rd, hc']; rfl
    | false =>
      rw [hc] at hd
      rw [show (ordX ordF (Sx.rowAt A p) (Sx.rowAt B p) != 0) = false from hc] at rd
      exact .inl ⟨⟨p + 1, hl, hd.symm.trans he⟩, by simp only; omega, trivial, rd⟩
  · obtain rfl : p = a := by omega
    rw [bcF (decide_eq_false (by omega))] at rd
    have : ogF A B p 0 = 0 := by rw [← he, Nat.sub_self]; rfl
    rw [this]
    exact .inr rd
theorem loopOS (ha : a < 1000000000) (hA : RigL a A) : Tri Tryz.prog (.loop loopOg) (sOs m e s b r f h w a A 0).toA (bcond (ogF A A a 0 != 0) .ret (.exit 0)) (sOsX m e s b r f h w a A (ogF A A a 0)).toA 1 := by
  have key := loop_rounds (ent_sound (T := tOg ordF) (.cons eOrP_ok .nil) host nolv_ok (NF := 64) (m := 1) 20) (NF := 64) (m := 1) (x := loopOg) (K := 1) loops_none (fun n => hasN [2, 3, 4, 25, 26, 27] n) (fun n => hasN [2, 3, 4] n) (ι := { p : Nat // p ≤ a ∧ ogF A A (a - p) p = ogF A A a 0 }) (fun p => sOs m e s b r f h w a A (p.1 : Int)) (fun p => a - p.1) (fun p => (bcond (ogF A A a 0 != 0) .ret (.exit 0), sOsX m e s b r f h w a A (ogF A A a 0))) ?_ (fun p => by cases ogF A A a 0 != 0 <;> simp [bcond]) ⟨0, Nat.zero_le _, rfl⟩
  · exact key
  rintro ⟨p, hp, he⟩
  simp only
  have rd := rOs ordF m e s b r f h w a A (p : Int)
  by_cases hl : p < a
  · have i1 : ixN (p : Int) a = true := ixN_nat hl
    have i2 := all2 i1 (inR_nat (R := A) (j := p) (by have := hA.1; omega))
    rw [bcT (decide_eq_true (by omega)), chks_true i2, chks_true i2, Int.toNat_natCast, chks_true (okC_of (hA.2 p hl)), up1_nat (by omega)] at rd
    have hd : ogF A A (a - p) p = bcond (ordR (Sx.rowAt A p) (Sx.rowAt A p) != 0) (ordR (Sx.rowAt A p) (Sx.rowAt A p)) (ogF A A (a - (p + 1)) (p + 1)) := by
      rw [show a - p = (a - (p + 1)) + 1 by omega]; rfl
    cases hc : ordR (Sx.rowAt A p) (Sx.rowAt A p) != 0 with
    | true =>
      rw [hc] at hd
      have ec : ordX ordF (Sx.rowAt A p) (Sx.rowAt A p) = ogF A A a 0 := (he.symm.trans hd).symm
      have hc' : (ogF A A a 0 != 0) = true := by rw [← ec]; exact hc
      rw [ec, hc'] at rd
      right
      rw [rd, hc']; rfl
    | false =>
      rw [hc] at hd
      rw [show (ordX ordF (Sx.rowAt A p) (Sx.rowAt A p) != 0) = false from hc] at rd
      exact .inl ⟨⟨p + 1, hl, hd.symm.trans he⟩, by simp only; omega, trivial, rd⟩
  · obtain rfl : p = a := by omega
    rw [bcF (decide_eq_false (by omega))] at rd
    have : ogF A A p 0 = 0 := by rw [← he, Nat.sub_self]; rfl
    rw [this]
    exact .inr rd
end
noncomputable def tCp (tx : List UInt8 → Bool) (gi : Int → Int → Int) : Tab := [(27, eRigC tx), (106, eCm gi)]
noncomputable def tCq (tx : List UInt8 → Bool) (gi : Int → Int → Int) : Tab := [(27, eRigC tx), (106, eCm gi), (109, eNo)]
noncomputable def tCo (tx : List UInt8 → Bool) (g : Int → Int → Int → List UInt8 → Bool → Int → Int → Int → Int → List UInt8 → Bool → Int → Int) : Tab := [(27, eRigC tx), (70, eOrP g)]
section
variable (tx : List UInt8 → Bool) (gi : Int → Int → Int) (g : Int → Int → Int → List UInt8 → Bool → Int → Int → Int → Int → List UInt8 → Bool → Int → Int) (k m e : Int) (s : List UInt8) (b : Bool) (r f k' m' e' : Int) (s' : List UInt8) (b' : Bool) (r' f' : Int) (h w h' w' : Int) (a a' : Nat) (A B : List (List CV))
def iT2 (n : Int) : Ans := .ret (.int .i64 n) [fR A, fR B]
def iT1 (n : Int) : Ans := .ret (.int .i64 n) [fR A]
def outOg (c : Bool) (G : Int) : LAns := .chk c (.br (G != 0) (.out .ret (sOgX m e s b r f m' e' s' b' r' f' h w h' w' a a' A B G)) (.out (.exit 0) (sOgX m e s b r f m' e' s' b' r' f' h w h' w' a a' A B 0)))
noncomputable def lvOg (c : Bool) (G : Int) : FuncId → Lv := lvOf 109 (fun _ => some [2, 3, 4, 25, 26, 27]) (oneL 5 (eAt 2 (sOg m e s b r f m' e' s' b' r' f' h w h' w' a a' A B 0) (outOg m e s b r f m' e' s' b' r' f' h w h' w' a a' A B c G)))
noncomputable def ltOg (c : Bool) (G : Int) : Ans := .chk (eqSt (sOg m e s b r f m' e' s' b' r' f' h w h' w' a a' A B 0) (sOg m e s b r f m' e' s' b' r' f' h w h' w' a a' A B 0)) (.chk c (.br (G != 0) (iT2 A B G) (iT2 A B 0)))
open Classical in
theorem cp_aa (c : Bool) (G : Int) : Comes (tCp tx gi) (lvOg m e s b r f m' e' s' b' r' f' h w h' w' a a' A B c G) 28 [vL 5 m e s b r h w (.dsl 0 a) f, vL 5 m' e' s' b' r' h' w' (.dsl 1 a') f'] [fR A, fR B]
  (.chk (decide (okRows a A)) (.chk (rightA tx m e s b r h w f a A) (.chk (decide (okRows a' B)) (.chk (rightA tx m' e' s' b' r' h' w' f' a' B)
    (.br (gi h h' != 0) (.br (gi h h' != 0) (iT2 A B (gi h h')) (ltOg m e s b r f m' e' s' b' r' f' h w h' w' a a' A B c G)) (.br (gi w w' != 0) (.br (gi w w' != 0) (iT2 A B (gi w w')) (ltOg m e s b r f m' e' s' b' r' f' h w h' w' a a' A B c G)) (ltOg m e s b r f m' e' s' b' r' f' h w h' w' a a' A B c G))))))) := by unfold Comes; kernel_rfl
def outOs (c : Bool) (G : Int) : LAns := .chk c (.br (G != 0) (.out .ret (sOsX m e s b r f h w a A G)) (.out (.exit 0) (sOsX m e s b r f h w a A 0)))
noncomputable def lvOs (c : Bool) (G : Int) : FuncId → Lv := lvOf 109 (fun _ => some [2, 3, 4, 25, 26, 27]) (oneL 5 (eAt 1 (sOs m e s b r f h w a A 0) (outOs m e s b r f h w a A c G)))
noncomputable def ltOs (c : Bool) (G : Int) : Ans := .chk (eqSt (sOs m e s b r f h w a A 0) (sOs m e s b r f h w a A 0)) (.chk c (.br (G != 0) (iT1 A G) (iT1 A 0)))
open Classical in
theorem cp_ss (c : Bool) (G : Int) : Comes (tCp tx gi) (lvOs m e s b r f h w a A c G) 28 [vL 5 m e s b r h w (.dsl 0 a) f, vL 5 m e s b r h w (.dsl 0 a) f] [fR A]
  (.chk (decide (okRows a A)) (.chk (rightA tx m e s b r h w f a A) (.chk (decide (okRows a A)) (.chk (rightA tx m e s b r h w f a A)
    (.br (gi h h != 0) (.br (gi h h != 0) (iT1 A (gi h h)) (ltOs m e s b r f h w a A c G)) (.br (gi w w != 0) (.br (gi w w != 0) (iT1 A (gi w w)) (ltOs m e s b r f h w a A c G)) (ltOs m e s b r f h w a A c G))))))) := by unfold Comes; kernel_rfl
open Classical in
theorem cp_ap : Comes (tCq tx gi) nolv 28 [vL 5 m e s b r h w (.dsl 0 a) f, vL k' m' e' s' b' r' h' w' .nilslice f'] [fR A]
  (.chk (decide (okRows a A)) (.chk (rightA tx m e s b r h w f a A) (.chk (decide (0 ≤ k' ∧ k' ≤ 4)) (.chk (decide (s'.length ≤ 1000000)) (.chk (rightF tx k' m' e' s' b' r' h' w' f') (.chk (5 != k') (iT1 A (gi 5 k')))))))) := by unfold Comes; kernel_rfl
end
end Go.Proofs.YtdomenmfkbfakaaGreatDoor
