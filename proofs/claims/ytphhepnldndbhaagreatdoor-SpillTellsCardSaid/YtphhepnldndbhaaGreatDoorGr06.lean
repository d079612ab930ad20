import Derived.Test.YtphhepnldndbhaaGreatDoorGr05
import Derived.Test.YtphhepnldndbhaaGreatDoorProg
import Derived.KernelRfl
import Derived.Test.YtphhepnldndbhaaGreatDoorRows
import Derived.Shelf.Lays
import Derived.Shelf.Unicode.ValidAny
import Derived.Lib.LaidU8T
import Derived.MakeChecks
import Derived.Lib.LaidTab
import Derived.Stop.LaidErr
import Derived.Shelf.Vars
import Derived.Lib.TrimU
set_option linter.unusedVariables false
set_option linter.unusedSimpArgs false
namespace Go.Proofs.YtphhepnldndbhaaGreatDoor.Sx
open Go
variable {P : Program} {R : Type}
end Go.Proofs.YtphhepnldndbhaaGreatDoor.Sx
namespace Go.Proofs.YtphhepnldndbhaaGreatDoor.Sx
open Go
variable {P : Program}
theorem den_seal {E : Env} {nm len : Nat} {x : Value} (h : den E (.vec nm len) = some x) : den E (.dsl nm len) = some x := by
  simp only [den, Option.bind_eq_some_iff] at h ⊢
  obtain ⟨p, hp, hq⟩ := h
  split at hq
  · rename_i hc
    refine ⟨p, hp, ?_⟩
    rw [hc.1, if_neg (by simp), if_pos hc.2.2, hc.2.1]; exact hq
  · cases hq
theorem Fits.vec_flatR {m : Bool} {sh : List CK} {rows : List (List CV)} {t : TypeId} : Fits (.vec (rowsA sh rows) t sh.length) (.flatR m sh rows) := fun E w b c ho => by
  have hlt := ho.lt rfl rfl
  obtain ⟨xs, ys, hx, ⟨mk, hw, hmk⟩, hl, h1, h2⟩ := ho
  refine ⟨fun e => (by rw [h2] at e; cases e), fun _ => ⟨hlt, fun i j v hi hj hv => ?_⟩⟩
  have hg := rowsA_get (sh := sh) hi hj
  obtain ⟨x, hx1, hx2⟩ := denC_get hx hg
  have hc : den E (cellA (sh.getD j .any) (rowCV (rowAt rows i) j)) = some v := by
    generalize sh.getD j .any = k at hv
    cases k <;> simp [cellV] at hv <;> subst hv <;> rfl
  rw [hc] at hx2
  cases hx2
  rw [h1, Nat.zero_add, cell_of_block hw]
  have hlt2 := (List.getElem?_eq_some_iff.1 hx1).1
  simp only [List.getElem?_toArray, List.getElem?_append_left hlt2, hx1]
end Go.Proofs.YtphhepnldndbhaaGreatDoor.Sx
namespace Go.Proofs.YtphhepnldndbhaaGreatDoor
open Go Sx
theorem host : ∀ (f : Nat) (fn : Func), Tryz.prog.funcs[f]? = some fn → (fn.name == "runtime.NumGoroutine") = false := by
  have h : (Tryz.prog.funcs.all fun fn => !(fn.name == "runtime.NumGoroutine")) = true := by kernel_rfl
  intro f fn hf
  have := Array.all_eq_true'.1 h fn (Array.mem_of_getElem? hf)
  simpa using this
def Comes (T : Tab) (lv : FuncId → Lv) (f : FuncId) (args : List AV) (pre : List PObj) (x : Ans) : Prop :=
  ent (R := AV × List PObj) Tryz.prog T lv 64 18446744073709551616 30 f args pre pure2 = x.run pure2
theorem ans_comes {T : Tab} {lv : FuncId → Lv} {f : FuncId} {args : List AV} {pre : List PObj} {x : Ans} (hT : TabOK Tryz.prog T) (h : Comes T lv f args pre x) (hL : LvOK Tryz.prog lv := by exact qyz) : AnsOK Tryz.prog f args pre x :=
  ans_of x fun res post k => qyx hT host (h.trans k) hL
def tab0 : Tab := [(354, eSame), (304, eIndexByte)]
theorem tab0_ok : TabOK Tryz.prog tab0 :=
  .cons (eSame_ok Tryz.func354 (by kernel_rfl) (by kernel_rfl) (by kernel_rfl) (by kernel_rfl))
  (.cons (eIndexByte_ok Tryz.func304 (by kernel_rfl) (by kernel_rfl) (by kernel_rfl) (by kernel_rfl)) .nil)
theorem of_run {f : FuncId} {args : List AV} {pre : List PObj} {x y : Ans} (h : AnsOK Tryz.prog f args pre x) (e : ∀ r, y.run pure2 = some r → x.run pure2 = some r) : AnsOK Tryz.prog f args pre y :=
  ans_of y fun res post k => by
    obtain ⟨a, b, h1, h2⟩ := Ans.sound x h (e _ k)
    cases h2; exact h1
theorem bcT {α : Type} {b : Bool} {x y : α} (h : b = true) : qyw b x y = x := by rw [h]; rfl
theorem bcF {α : Type} {b : Bool} {x y : α} (h : b = false) : qyw b x y = y := by rw [h]; rfl
theorem chk_run {b : Bool} {x : Ans} {r : AV × List PObj} (h : (Ans.chk b x).run pure2 = some r) : b = true ∧ x.run pure2 = some r := by
  cases b
  · cases h
  · exact ⟨rfl, h⟩
def inI (a : Int) : Bool := decide (-9223372036854775808 ≤ a ∧ a < 9223372036854775808)
theorem inI_iff {a : Int} : inI a = true ↔ -9223372036854775808 ≤ a ∧ a < 9223372036854775808 := by simp [inI]
def qyv (a n : Int) : Int := if a < 0 then (-(a + 1)).tmod n else a.tmod n
theorem pickS_bd {a n : Int} (h : 0 < n) : 0 ≤ qyv a n ∧ qyv a n < n := by
  unfold qyv
  split
  · rw [Int.tmod_eq_emod_of_nonneg (by omega)]; exact ⟨Int.emod_nonneg _ (by omega), Int.emod_lt_of_pos _ h⟩
  · rw [Int.tmod_eq_emod_of_nonneg (by omega)]; exact ⟨Int.emod_nonneg _ (by omega), Int.emod_lt_of_pos _ h⟩
end Go.Proofs.YtphhepnldndbhaaGreatDoor
set_option linter.unusedSectionVars false
namespace Go.Proofs.YtphhepnldndbhaaGreatDoor
open Go Sx
theorem chkT {R : Type} {b : Bool} {x : Ans} {k : AV → List PObj → Option R} (h : b = true) : (Ans.chk b x).run k = x.run k := by rw [h]; rfl
theorem brT {R : Type} {b : Bool} {x y : Ans} {k : AV → List PObj → Option R} (h : b = true) : (Ans.br b x y).run k = x.run k := by rw [h]; rfl
theorem brF {R : Type} {b : Bool} {x y : Ans} {k : AV → List PObj → Option R} (h : b = false) : (Ans.br b x y).run k = y.run k := by rw [h]; rfl
def ixN (i : Int) (k : Nat) : Bool := decide (0 ≤ i ∧ i < (k : Int))
abbrev up1 (i : Int) : Int := IntKind.i64.wrap (i + 1)
abbrev w64 (a : Int) : Int := IntKind.i64.wrap a
theorem w64_of {a : Int} (h : inI a = true) : w64 a = a := by have := inI_iff.1 h; exact i64_in (by omega) (by omega)
theorem up1_nat {j : Nat} (h : j < 1099511627776) : up1 (j : Int) = ((j + 1 : Nat) : Int) := by unfold up1; rw [i64_in (by omega) (by omega)]; rfl
theorem ixN_nat {j k : Nat} (h : j < k) : ixN (j : Int) k = true := decide_eq_true (by omega)
def inR (i : Int) (R : List (List CV)) : Bool := decide (i.toNat < R.length) && true && true
theorem all2 {a b : Bool} (ha : a = true) (hb : b = true) : ∀ c ∈ [a, b], c = true := by
  intro c hc
  simp only [List.mem_cons, List.not_mem_nil, or_false] at hc
  rcases hc with rfl | rfl
  · exact ha
  · exact hb
theorem all1 {a : Bool} (ha : a = true) : ∀ c ∈ [a], c = true := fun c hc => by rw [List.mem_singleton.1 hc]; exact ha
theorem inR_nat {j : Nat} {R : List (List CV)} (h : j < R.length) : inR (j : Int) R = true := by unfold inR; rw [Int.toNat_natCast, decide_eq_true h]; rfl
theorem pk_comes (c n : Int) : Comes [] nolv 13 [.int .i64 c, .int .i64 n] [] (.br (decide (c < 0)) (.chk (n != 0) (.ret (.int .i64 (Int.tmod (w64 (0 - w64 (c + 1))) n)) [])) (.chk (n != 0) (.ret (.int .i64 (Int.tmod c n)) []))) := by unfold Comes; kernel_rfl
def ePick : Ent := fun args pre => match args, pre with
  | [.int .i64 c, .int .i64 n], [] => .chk (inI c) (.chk (decide (0 < n ∧ n < 1000000000)) (.ret (.int .i64 (qyv c n)) []))
  | _, _ => .fail
theorem ePick_ok : EntOK Tryz.prog 13 ePick := fun args pre => by
  unfold ePick
  split
  · rename_i c n
    refine ⟨fun g1 => ⟨fun g2 => ?_, fun _ => trivial⟩, fun _ => trivial⟩
    have g2 := of_decide_eq_true g2
    have hc := inI_iff.1 g1
    refine of_run (x := .br (decide (c < 0)) _ _) (y := .ret (.int .i64 (qyv c n)) []) (ans_comes .nil (pk_comes c n)) fun r hr => ?_
    rw [← hr]
    unfold qyv
    by_cases h : c < 0
    · rw [brT (decide_eq_true h), chkT (bne_iff_ne.2 (by omega)), if_pos h, w64_of (a := c + 1) (inI_iff.2 ⟨by omega, by omega⟩), w64_of (a := 0 - (c + 1)) (inI_iff.2 ⟨by omega, by omega⟩), Int.zero_sub]
    · rw [brF (decide_eq_false h), chkT (bne_iff_ne.2 (by omega)), if_neg h]
  · trivial
abbrev aA (s r c h w : Int) : AV := .agg [.int .i64 s, .int .i64 r, .int .i64 c, .int .i64 h, .int .i64 w]
abbrev aP (s r c : Int) : AV := .agg [.int .i64 s, .int .i64 r, .int .i64 c]
def allB : List Bool → Bool
  | [] => true
  | b :: bs => qyw b (allB bs) false
theorem allB_iff : ∀ {bs : List Bool}, allB bs = true ↔ ∀ b ∈ bs, b = true
  | [] => by simp [allB]
  | b :: bs => by cases b <;> simp [allB, qyw, allB_iff (bs := bs)]
def andT (pre : List PObj) : List Bool → Ans
  | [] => .ret (.bool true) pre
  | [b] => .ret (.bool b) pre
  | b :: bs => .br b (andT pre bs) (.ret (.bool false) pre)
theorem andT_run {pre : List PObj} : ∀ bs : List Bool, (andT pre bs).run pure2 = pure2 (.bool (allB bs)) pre
  | [] => rfl
  | [b] => by cases b <;> rfl
  | b :: c :: bs => by
    cases b with
    | true => exact andT_run (c :: bs)
    | false => rfl
def areaC (s r c h w : Int) : List Bool := [!decide (s < 0), !decide (s ≥ 8), decide (r ≥ 0), decide (h ≥ 1), decide (h ≤ w64 (200 - r)), decide (c ≥ 0), decide (w ≥ 1), decide (w ≤ w64 (52 - c))]
def areaB (s r c h w : Int) : Bool := allB (areaC s r c h w)
def isAT (s r c h w : Int) : Ans := .br (decide (s < 0)) (.ret (.bool false) []) (.br (decide (s ≥ 8)) (.ret (.bool false) []) (.br (decide (r ≥ 0)) (.br (decide (h ≥ 1)) (.br (decide (h ≤ w64 (200 - r))) (andT [] [decide (c ≥ 0), decide (w ≥ 1), decide (w ≤ w64 (52 - c))]) (.ret (.bool false) [])) (.ret (.bool false) [])) (.ret (.bool false) [])))
theorem isA_comes (s r c h w : Int) : Comes [] nolv 37 [aA s r c h w] [] (isAT s r c h w) := by unfold Comes; kernel_rfl
def eIsA : Ent := fun args pre => match args, pre with
  | [.agg [.int .i64 s, .int .i64 r, .int .i64 c, .int .i64 h, .int .i64 w]], [] => .ret (.bool (areaB s r c h w)) []
  | _, _ => .fail
theorem eIsA_ok : EntOK Tryz.prog 37 eIsA := fun args pre => by
  unfold eIsA
  split
  · rename_i s r c h w
    refine of_run (ans_comes .nil (isA_comes s r c h w)) fun x hx => ?_
    rw [← hx]
    unfold areaB areaC isAT
    cases decide (s < 0) with
    | true => rfl
    | false => cases decide (s ≥ 8) with
      | true => rfl
      | false => cases decide (r ≥ 0) with
        | false => rfl
        | true => cases decide (h ≥ 1) with
          | false => rfl
          | true => cases decide (h ≤ w64 (200 - r)) with
            | false => rfl
            | true => exact andT_run _
  · trivial
end Go.Proofs.YtphhepnldndbhaaGreatDoor
namespace Go.Proofs.YtphhepnldndbhaaGreatDoor
open Go Sx
def tAr : Tab := [(37, eIsA)]
theorem tAr_ok : TabOK Tryz.prog tAr := .cons eIsA_ok .nil
section
variable (s r c h w s' r' c' h' w' : Int)
def hasC : List Bool := [areaB s r c h w, !(s != s'), decide (r' ≥ r), decide (r' < w64 (r + h)), decide (c' ≥ c), decide (c' < w64 (c + w))]
def hasB : Bool := allB (hasC s r c h w s' r' c')
theorem has_comes : Comes tAr nolv 23 [aA s r c h w, aP s' r' c'] [] (.br (!areaB s r c h w) (.ret (.bool false) []) (.br (s != s') (.ret (.bool false) []) (andT [] [decide (r' ≥ r), decide (r' < w64 (r + h)), decide (c' ≥ c), decide (c' < w64 (c + w))]))) := by unfold Comes; kernel_rfl
abbrev mxI (a b : Int) : Int := if b > a then b else a
abbrev mnI (a b : Int) : Int := if b < a then b else a
def mtR : Int := mxI r r'
def mtC : Int := mxI c c'
def mtH : Int := w64 (mnI (w64 (r + h)) (w64 (r' + h')) - mxI r r')
def mtW : Int := w64 (mnI (w64 (c + w)) (w64 (c' + w')) - mxI c c')
def meetC : List Bool := [areaB s r c h w, areaB s' r' c' h' w', !(s != s'), areaB s (mtR r r') (mtC c c') (mtH r h r' h') (mtW c w c' w')]
def meetB : Bool := allB (meetC s r c h w s' r' c' h' w')
def noMt : Ans := .ret (.tuple [aA 0 0 0 0 0, .bool false]) []
def yesMt : Ans := .ret (.tuple [aA s (mtR r r') (mtC c c') (mtH r h r' h') (mtW c w c' w'), .bool true]) []
theorem meet_comes : Comes tAr nolv 22 [aA s r c h w, aA s' r' c' h' w'] [] (.br (!areaB s r c h w) noMt (.br (!areaB s' r' c' h' w') noMt (.br (s != s') noMt (.br (!areaB s (mtR r r') (mtC c c') (mtH r h r' h') (mtW c w c' w')) noMt (yesMt s r c h w r' c' h' w'))))) := by unfold Comes; kernel_rfl
def ahdB : Bool := qyw (s != s') (decide (s < s')) (qyw (r != r') (decide (r < r')) (decide (c < c')))
theorem ahd_comes : Comes [] nolv 24 [aP s r c, aP s' r' c'] [] (.br (s != s') (.ret (.bool (decide (s < s'))) []) (.br (r != r') (.ret (.bool (decide (r < r'))) []) (.ret (.bool (decide (c < c'))) []))) := by unfold Comes; kernel_rfl
end
def eHas : Ent := fun args pre => match args, pre with
  | [.agg [.int .i64 s, .int .i64 r, .int .i64 c, .int .i64 h, .int .i64 w], .agg [.int .i64 s', .int .i64 r', .int .i64 c']], [] => .ret (.bool (hasB s r c h w s' r' c')) []
  | _, _ => .fail
theorem eHas_ok : EntOK Tryz.prog 23 eHas := fun args pre => by
  unfold eHas
  split
  · rename_i s r c h w s' r' c'
    refine of_run (ans_comes tAr_ok (has_comes s r c h w s' r' c')) fun x hx => ?_
    rw [← hx]
    unfold hasB hasC
    cases areaB s r c h w with
    | false => rfl
    | true => cases s != s' with
      | true => rfl
      | false => exact andT_run _
  · trivial
def eMeet : Ent := fun args pre => match args, pre with
  | [.agg [.int .i64 s, .int .i64 r, .int .i64 c, .int .i64 h, .int .i64 w], .agg [.int .i64 s', .int .i64 r', .int .i64 c', .int .i64 h', .int .i64 w']], [] => .br (meetB s r c h w s' r' c' h' w') (yesMt s r c h w r' c' h' w') noMt
  | _, _ => .fail
theorem eMeet_ok : EntOK Tryz.prog 22 eMeet := fun args pre => by
  unfold eMeet
  split
  · rename_i s r c h w s' r' c' h' w'
    refine of_run (ans_comes tAr_ok (meet_comes s r c h w s' r' c' h' w')) fun x hx => ?_
    rw [← hx]
    unfold meetB meetC
    cases areaB s r c h w with
    | false => rfl
    | true => cases areaB s' r' c' h' w' with
      | false => rfl
      | true => cases s != s' with
        | true => rfl
        | false => cases areaB s (mtR r r') (mtC c c') (mtH r h r' h') (mtW c w c' w') <;> rfl
  · trivial
def eAhd : Ent := fun args pre => match args, pre with
  | [.agg [.int .i64 s, .int .i64 r, .int .i64 c], .agg [.int .i64 s', .int .i64 r', .int .i64 c']], [] => .ret (.bool (ahdB s r c s' r' c')) []
  | _, _ => .fail
theorem eAhd_ok : EntOK Tryz.prog 24 eAhd := fun args pre => by
  unfold eAhd
  split
  · rename_i s r c s' r' c'
    refine of_run (ans_comes .nil (ahd_comes s r c s' r' c')) fun x hx => ?_
    rw [← hx]
    unfold ahdB
    cases s != s' with
    | true => rfl
    | false => cases r != r' <;> rfl
  · trivial
def tMt : Tab := [(22, eMeet), (23, eHas)]
theorem tMt_ok : TabOK Tryz.prog tMt := .cons eMeet_ok (.cons eHas_ok .nil)
theorem rar_comes (s r c h w : Int) : Comes tMt nolv 29 [aA s r c h w] [] (.br (meetB s r c h w s r c h w) (.ret (.bool true) []) (.ret (.bool false) [])) := by unfold Comes; kernel_rfl
theorem rpl_comes (s r c : Int) : Comes tMt nolv 67 [aP s r c] [] (.ret (.bool (hasB s 0 0 200 52 s r c)) []) := by unfold Comes; kernel_rfl
theorem areaB_iff {s r c h w : Int} (hr : inI r = true) (hc : inI c = true) : areaB s r c h w = true ↔ (0 ≤ s ∧ s < 8) ∧ (0 ≤ r ∧ 1 ≤ h ∧ h ≤ 200 - r) ∧ 0 ≤ c ∧ 1 ≤ w ∧ w ≤ 52 - c := by
  have hr := inI_iff.1 hr
  have hc := inI_iff.1 hc
  unfold areaB areaC
  rw [allB_iff]
  simp only [List.mem_cons, List.not_mem_nil, or_false, forall_eq_or_imp, forall_eq, Bool.not_eq_true', decide_eq_false_iff_not, decide_eq_true_eq]
  constructor
  · rintro ⟨h1, h2, h3, h4, h5, h6, h7, h8⟩
    rw [w64_of (inI_iff.2 ⟨by omega, by omega⟩)] at h5 h8
    omega
  · rintro ⟨⟨h1, h2⟩, ⟨h3, h4, h5⟩, h6, h7, h8⟩
    rw [w64_of (a := 200 - r) (inI_iff.2 ⟨by omega, by omega⟩), w64_of (a := 52 - c) (inI_iff.2 ⟨by omega, by omega⟩)]
    omega
theorem meet_self {s r c h w : Int} (hr : inI r = true) (hc : inI c = true) : meetB s r c h w s r c h w = areaB s r c h w := by
  cases ha : areaB s r c h w with
  | false => unfold meetB meetC; rw [ha]; rfl
  | true =>
    obtain ⟨h1, h2, h3⟩ := (areaB_iff hr hc).1 ha
    unfold meetB meetC
    rw [ha]
    have e1 : w64 (r + h) = r + h := w64_of (inI_iff.2 ⟨by omega, by omega⟩)
    have e2 : w64 (c + w) = c + w := w64_of (inI_iff.2 ⟨by omega, by omega⟩)
    have e3 : mtR r r = r := by unfold mtR mxI; rw [if_neg (by omega)]
    have e4 : mtC c c = c := by unfold mtC mxI; rw [if_neg (by omega)]
    have e5 : mtH r h r h = h := by unfold mtH mxI mnI; rw [e1, if_neg (by omega), if_neg (by omega), w64_of (inI_iff.2 ⟨by omega, by omega⟩)]; omega
    have e6 : mtW c w c w = w := by unfold mtW mxI mnI; rw [e2, if_neg (by omega), if_neg (by omega), w64_of (inI_iff.2 ⟨by omega, by omega⟩)]; omega
    rw [e3, e4, e5, e6, ha, bne_self_eq_false]; rfl
def eRar : Ent := fun args pre => match args, pre with
  | [.agg [.int .i64 s, .int .i64 r, .int .i64 c, .int .i64 h, .int .i64 w]], [] => .chk (inI r && inI c) (.ret (.bool (areaB s r c h w)) [])
  | _, _ => .fail
theorem eRar_ok : EntOK Tryz.prog 29 eRar := fun args pre => by
  unfold eRar
  split
  · rename_i s r c h w
    refine ⟨fun g => ?_, fun _ => trivial⟩
    rw [Bool.and_eq_true] at g
    refine qyx (pre := []) (post := []) tMt_ok host ((rar_comes s r c h w).trans ?_) qyz
    rw [meet_self g.1 g.2]
    cases areaB s r c h w <;> rfl
  · trivial
end Go.Proofs.YtphhepnldndbhaaGreatDoor
namespace Go.Proofs.YtphhepnldndbhaaGreatDoor
open Go Sx
def cmI (x y : Int) : Int := qyw (decide (x < y)) (-1) (qyw (decide (x > y)) 1 0)
def iT (n : Int) : Ans := .ret (.int .i64 n) []
def cmT (x y : Int) : Ans := .br (x != x) (.br (y != y) (iT 0) (iT (-1))) (.br (y != y) (iT 1) (.br (decide (x < y)) (iT (-1)) (.br (decide (x > y)) (iT 1) (iT 0))))
theorem cmi_comes (x y : Int) : Comes [] nolv 81 [.int .i64 x, .int .i64 y] [] (cmT x y) := by unfold Comes; kernel_rfl
theorem cmT_run (x y : Int) : (cmT x y).run pure2 = pure2 (.int .i64 (cmI x y)) [] := by
  unfold cmT cmI
  rw [brF (show (x != x) = false by simp), brF (show (y != y) = false by simp)]
  cases decide (x < y) with
  | true => rfl
  | false => cases decide (x > y) <;> rfl
def eCm (g : Int → Int → Int) : Ent := fun args pre => match args, pre with
  | [.int .i64 a, .int .i64 b], [] => .ret (.int .i64 (g a b)) []
  | _, _ => .fail
theorem eCm_ok : EntOK Tryz.prog 81 (eCm cmI) := fun args pre => by
  unfold eCm
  split
  · exact qyx (pre := []) (post := []) .nil host ((cmi_comes _ _).trans (cmT_run _ _)) qyz
  · trivial
theorem cp_comes (g : Int → Int → Int) (s r c s' r' c' : Int) : Comes [(81, eCm g)] nolv 46 [aP s r c, aP s' r' c'] []
  (.br (g s s' != 0) (iT (g s s')) (.br (g r r' != 0) (iT (g r r')) (.br (g c c' != 0) (iT (g c c')) (iT 0)))) := by unfold Comes; kernel_rfl
def cmP (s r c s' r' c' : Int) : Int := qyw (cmI s s' != 0) (cmI s s') (qyw (cmI r r' != 0) (cmI r r') (qyw (cmI c c' != 0) (cmI c c') 0))
def eCmp : Ent := fun args pre => match args, pre with
  | [.agg [.int .i64 s, .int .i64 r, .int .i64 c], .agg [.int .i64 s', .int .i64 r', .int .i64 c']], [] => .ret (.int .i64 (cmP s r c s' r' c')) []
  | _, _ => .fail
theorem eCmp_ok : EntOK Tryz.prog 46 eCmp := fun args pre => by
  unfold eCmp
  split
  · rename_i s r c s' r' c'
    refine of_run (ans_comes (.cons eCm_ok .nil) (cp_comes cmI s r c s' r' c')) fun x hx => ?_
    rw [← hx]
    unfold cmP
    cases cmI s s' != 0 with
    | true => rfl
    | false => cases cmI r r' != 0 with
      | true => rfl
      | false => cases cmI c c' != 0 <;> rfl
  · trivial
end Go.Proofs.YtphhepnldndbhaaGreatDoor
namespace Go.Proofs.YtphhepnldndbhaaGreatDoor
open Go Sx
def shA : List CK := [.int .i64, .int .i64, .int .i64]
abbrev fA (R : List (List CV)) : PObj := .raw (.flatR false shA R)
abbrev vA (R : List (List CV)) : PObj := .vecR shA R 25
abbrev c0 (x : List CV) : Int := (rowCV x 0).n
abbrev c1 (x : List CV) : Int := (rowCV x 1).n
abbrev c2 (x : List CV) : Int := (rowCV x 2).n
def mkA (s r c : Int) : List CV := [.mk s [] false [], .mk r [] false [], .mk c [] false []]
def tSa : Tab := [(13, ePick), (24, eAhd)]
theorem tSa_ok : TabOK Tryz.prog tSa := .cons ePick_ok (.cons eAhd_ok .nil)
noncomputable abbrev loopO1 : Code := (qyu (bodyOf Tryz.f26)).headD .skip
noncomputable abbrev loopO2 : Code := ((qyu (bodyOf Tryz.f26)).drop 1).headD .skip
def inR1 (i : Int) (R : List (List CV)) : Bool := decide (i.toNat < R.length) && true
section
variable (R O : List (List CV)) (a n : Nat) (i k p0 p1 p2 at' : Int) (tw : Bool)
def sO (o : AV) (t : List (Option PObj)) (i : Int) : qzw := ⟨some (.dsl 0 a) :: none :: none :: some o :: some (.int .i64 i) :: nn 92, some (fA R) :: (t ++ nn 64)⟩
def sOX (o : AV) (t : List (Option PObj)) : qzw := ⟨none :: none :: none :: some o :: nn 93, some (fA R) :: (t ++ nn 64)⟩
def pO (p0 p1 p2 : Int) : PObj := .raw (.cells [.int .i64 p0, .int .i64 p1, .int .i64 p2] 25)
def sJ (at' : Int) (tw : Bool) (k : Int) : qzw := ⟨some (.dsl 0 a) :: none :: none :: some (.vec 1 n) :: some (.int .i64 i) :: some (.ptr 2 0) :: some (.int .i64 at') :: some (.bool tw) :: some (.int .i64 k) :: nn 88, some (fA R) :: some (vA O) :: some (pO p0 p1 p2) :: nn 64⟩
def sJX (at' : Int) (tw : Bool) : qzw := ⟨some (.dsl 0 a) :: none :: none :: some (.vec 1 n) :: some (.int .i64 i) :: some (.ptr 2 0) :: some (.int .i64 at') :: some (.bool tw) :: nn 89, some (fA R) :: some (vA O) :: some (pO p0 p1 p2) :: nn 64⟩
def eqA3 (x : List CV) (p0 p1 p2 : Int) : Bool := (c0 x == p0 && (c1 x == p1 && (c2 x == p2 && true)))
theorem rJ : code (ent Tryz.prog tSa nolv 64 1 20) Tryz.prog {} 1 64 1 loopO2 (sJ R O a n i p0 p1 p2 at' tw k) (endK 1 64 (fun n => hasN [0, 3, 4, 5, 6, 7, 8] n) (fun n => hasN [0, 3, 4, 5, 6, 7] n))
  = qyw (decide (k < (n : Int))) (chks (qyw (ahdB (c0 (Sx.rowAt O k.toNat)) (c1 (Sx.rowAt O k.toNat)) (c2 (Sx.rowAt O k.toNat)) p0 p1 p2)
      (qyw tw (some (.normal, sJ R O a n i p0 p1 p2 (up1 k) true (up1 k))) (chks (some (.normal, sJ R O a n i p0 p1 p2 (up1 k) (eqA3 (Sx.rowAt O k.toNat) p0 p1 p2) (up1 k))) [ixN k n, inR k O]))
      (qyw tw (some (.normal, sJ R O a n i p0 p1 p2 at' true (up1 k))) (chks (some (.normal, sJ R O a n i p0 p1 p2 at' (eqA3 (Sx.rowAt O k.toNat) p0 p1 p2) (up1 k))) [ixN k n, inR k O]))) [ixN k n, inR k O]) (some (.exit 2, sJX R O a n i p0 p1 p2 at' tw)) := by kernel_rfl
def outJ (p0 p1 p2 : Int) (sb c : Bool) (g : Nat) : LAns := .chk c (.br sb (.out (.exit 2) (sJX R O a n i p0 p1 p2 (g : Int) true)) (.out (.exit 2) (sJX R O a n i p0 p1 p2 (g : Int) false)))
noncomputable def eJ (sb : Int → Int → Int → Bool) (g : Int → Int → Int → Nat) (c : Bool) : Nat → qzw → LAns := fun K st => match st.mem with
  | _ :: _ :: some (.raw (.cells [.int .i64 p0, .int .i64 p1, .int .i64 p2] _)) :: _ => eAt 1 (sJ R O a n i p0 p1 p2 0 false 0) (outJ R O a n i p0 p1 p2 (sb p0 p1 p2) c (g p0 p1 p2)) K st
  | _ => .fail
noncomputable def lvJ (sb : Int → Int → Int → Bool) (g : Int → Int → Int → Nat) (c : Bool) : FuncId → Lv := lvOf 26 (fun _ => some [0, 3, 4, 5, 6, 7, 8]) (oneL 12 (eJ R O a n i sb g c))
def insT (p0 p1 p2 : Int) (g : Nat) : Option (Ex × qzw) :=
  chks (qyw (decide (0 < g))
    (chks (some (.normal, sO R a (.vec 1 (g + 1 + (n - g))) [some (vA (O.take g ++ [mkA p0 p1 p2] ++ (O.drop g).take (n - g)))] (up1 i))) [decide (g ≤ O.length) && roomB g 24, decide ((vA (O.take g)).len = g * 3) && roomB (g + 1) 24, decide ((0 : Int) ≤ (g : Int)) && (true && decide (g ≤ n ∧ n ≤ n)), decide (g + (n - g) ≤ O.length) && decide ((vA (O.take g ++ [mkA p0 p1 p2])).len = (g + 1) * 3) && roomB (g + 1 + (n - g)) 24])
    (chks (some (.normal, sO R a (.vec 1 (1 + (n - g))) [some (vA ([mkA p0 p1 p2] ++ (O.drop g).take (n - g)))] (up1 i))) [decide (g ≤ O.length), decide ((0 : Int) ≤ (g : Int)) && (true && decide (g ≤ n ∧ n ≤ n)), decide (g + (n - g) ≤ O.length) && decide ((vA [mkA p0 p1 p2]).len = 1 * 3) && roomB (1 + (n - g)) 24]))
    [decide ((0 : Int) ≤ (g : Int)) && decide (0 < 3 ∧ g * 3 ≤ (vA O).lenP)]
noncomputable def leafO (p0 p1 p2 : Int) (sb c : Bool) (g : Nat) : Option (Ex × qzw) :=
  chks (qyw sb (some (.normal, sO R a (.vec 1 n) [some (vA O)] (up1 i))) (insT R O a n i p0 p1 p2 g)) [eqSt (sJ R O a n i p0 p1 p2 0 false 0) (sJ R O a n i p0 p1 p2 0 false 0), c]
def farR (x : List CV) : Int := w64 (199 - Int.tmod (qyv (c1 x) 8) 3)
def farC (x : List CV) : Int := w64 (51 - Int.tmod (qyv (c2 x) 6) 3)
def ckO (i : Int) : List Bool := [ixN i a, inR1 i R, inI (c0 (Sx.rowAt R i.toNat)), ixN i a, inR1 i R, inI (c1 (Sx.rowAt R i.toNat)), ixN i a, inR1 i R, inI (c2 (Sx.rowAt R i.toNat)), ixN i a, inR1 i R, inI (c1 (Sx.rowAt R i.toNat))]
theorem rO1 (sb : Int → Int → Int → Bool) (g : Int → Int → Int → Nat) (c : Bool) : code (ent Tryz.prog tSa (lvJ R O a n i sb g c) 64 1 20) Tryz.prog (lvJ R O a n i sb g c 26) 1 64 1 loopO1 (sO R a (.vec 1 n) [some (vA O)] i) (endK 1 64 (fun n => hasN [0, 3, 4] n) (fun n => hasN [3] n))
  = qyw (decide (i < (a : Int))) (qyw (decide (i < 12)) (chks (qyw (qyv (c1 (Sx.rowAt R i.toNat)) 17 == 16)
      (leafO R O a n i (qyv (c0 (Sx.rowAt R i.toNat)) 2) (farR (Sx.rowAt R i.toNat)) (farC (Sx.rowAt R i.toNat)) (sb (qyv (c0 (Sx.rowAt R i.toNat)) 2) (farR (Sx.rowAt R i.toNat)) (farC (Sx.rowAt R i.toNat))) c (g (qyv (c0 (Sx.rowAt R i.toNat)) 2) (farR (Sx.rowAt R i.toNat)) (farC (Sx.rowAt R i.toNat))))
      (leafO R O a n i (qyv (c0 (Sx.rowAt R i.toNat)) 2) (qyv (c1 (Sx.rowAt R i.toNat)) 8) (qyv (c2 (Sx.rowAt R i.toNat)) 6) (sb (qyv (c0 (Sx.rowAt R i.toNat)) 2) (qyv (c1 (Sx.rowAt R i.toNat)) 8) (qyv (c2 (Sx.rowAt R i.toNat)) 6)) c (g (qyv (c0 (Sx.rowAt R i.toNat)) 2) (qyv (c1 (Sx.rowAt R i.toNat)) 8) (qyv (c2 (Sx.rowAt R i.toNat)) 6)))) (ckO R a i))
    (some (.exit 0, sOX R (.vec 1 n) [some (vA O)]))) (some (.exit 0, sOX R (.vec 1 n) [some (vA O)])) := by kernel_rfl
theorem rO0 : code (ent Tryz.prog tSa nolv 64 1 20) Tryz.prog {} 1 64 1 loopO1 (sO R a .qzz [] 0) (endK 1 64 (fun n => hasN [0, 3, 4] n) (fun n => hasN [3] n))
  = qyw (decide ((0 : Int) < (a : Int))) (chks (qyw (qyv (c1 (Sx.rowAt R (0 : Int).toNat)) 17 == 16)
      (some (.normal, sO R a (.vec 1 1) [some (vA [mkA (qyv (c0 (Sx.rowAt R (0 : Int).toNat)) 2) (farR (Sx.rowAt R (0 : Int).toNat)) (farC (Sx.rowAt R (0 : Int).toNat))])] 1))
      (some (.normal, sO R a (.vec 1 1) [some (vA [mkA (qyv (c0 (Sx.rowAt R (0 : Int).toNat)) 2) (qyv (c1 (Sx.rowAt R (0 : Int).toNat)) 8) (qyv (c2 (Sx.rowAt R (0 : Int).toNat)) 6)])] 1))) (ckO R a 0))
    (some (.exit 0, sOX R .qzz [])) := by kernel_rfl
end
end Go.Proofs.YtphhepnldndbhaaGreatDoor
namespace Go.Proofs.YtphhepnldndbhaaGreatDoor
open Go Sx
def ahdR (x y : List CV) : Bool := ahdB (c0 x) (c1 x) (c2 x) (c0 y) (c1 y) (c2 y)
def eqR (x y : List CV) : Bool := eqA3 x (c0 y) (c1 y) (c2 y)
def scN (O : List (List CV)) (p : List CV) : Nat → Nat
  | 0 => 0
  | k + 1 => qyw (ahdR (Sx.rowAt O k) p) (k + 1) (scN O p k)
def scB (O : List (List CV)) (p : List CV) : Nat → Bool
  | 0 => false
  | k + 1 => scB O p k || eqR (Sx.rowAt O k) p
theorem scN_le (O : List (List CV)) (p : List CV) : ∀ k, scN O p k ≤ k
  | 0 => Nat.le_refl _
  | k + 1 => by have := scN_le O p k; rw [scN]; cases ahdR (Sx.rowAt O k) p <;> simp only [qyw] <;> omega
section
variable {R O : List (List CV)} {a n : Nat} {i p0 p1 p2 : Int}
theorem loopJ (hn : n = O.length) (hs : n ≤ 1000) : Tri Tryz.prog (.loop loopO2) (sJ R O a n i p0 p1 p2 0 false 0).toA (.exit 2) (sJX R O a n i p0 p1 p2 ((scN O (mkA p0 p1 p2) n : Nat) : Int) (scB O (mkA p0 p1 p2) n)).toA 1 := by
  have key := loop_rounds (qzv (T := tSa) tSa_ok host qyz (NF := 64) (m := 1) 20) (NF := 64) (m := 1) (x := loopO2) (K := 1) qyt (fun n => hasN [0, 3, 4, 5, 6, 7, 8] n) (fun n => hasN [0, 3, 4, 5, 6, 7] n) (ι := { k : Nat // k ≤ n })
    (fun k => sJ R O a n i p0 p1 p2 ((scN O (mkA p0 p1 p2) k.1 : Nat) : Int) (scB O (mkA p0 p1 p2) k.1) (k.1 : Int)) (fun k => n - k.1) (fun _ => (.exit 2, sJX R O a n i p0 p1 p2 ((scN O (mkA p0 p1 p2) n : Nat) : Int) (scB O (mkA p0 p1 p2) n))) ?_ (fun k => by simp) ⟨0, Nat.zero_le _⟩
  · exact key
  rintro ⟨k, hk⟩
  simp only
  have rd := rJ R O a n i (k : Int) p0 p1 p2 ((scN O (mkA p0 p1 p2) k : Nat) : Int) (scB O (mkA p0 p1 p2) k)
  by_cases h : k < n
  · have i1 := all2 (a := ixN (k : Int) n) (b := inR (k : Int) O) (ixN_nat h) (inR_nat (by omega))
    rw [bcT (decide_eq_true (by omega)), qzy i1, Int.toNat_natCast, up1_nat (by omega), qzy i1, qzy i1] at rd
    refine .inl ⟨⟨k + 1, h⟩, by simp only; omega, trivial, ?_⟩
    rw [rd]
    have e1 : scN O (mkA p0 p1 p2) (k + 1) = qyw (ahdB (c0 (Sx.rowAt O k)) (c1 (Sx.rowAt O k)) (c2 (Sx.rowAt O k)) p0 p1 p2) (k + 1) (scN O (mkA p0 p1 p2) k) := rfl
    have e2 : scB O (mkA p0 p1 p2) (k + 1) = (scB O (mkA p0 p1 p2) k || eqA3 (Sx.rowAt O k) p0 p1 p2) := rfl
    simp only [e1, e2]
    cases ahdB (c0 (Sx.rowAt O k)) (c1 (Sx.rowAt O k)) (c2 (Sx.rowAt O k)) p0 p1 p2 <;> cases scB O (mkA p0 p1 p2) k <;> rfl
  · obtain rfl : k = n := by omega
    rw [bcF (decide_eq_false (by omega))] at rd
    exact .inr rd
end
def plA (x : List CV) : List CV := qyw (qyv (c1 x) 17 == 16) (mkA (qyv (c0 x) 2) (farR x) (farC x)) (mkA (qyv (c0 x) 2) (qyv (c1 x) 8) (qyv (c2 x) 6))
def insA (O : List (List CV)) (p : List CV) : List (List CV) := qyw (scB O p O.length) O (O.take (scN O p O.length) ++ [p] ++ O.drop (scN O p O.length))
def atsL (R : List (List CV)) : Nat → List (List CV)
  | 0 => []
  | k + 1 => insA (atsL R k) (plA (Sx.rowAt R k))
theorem insA_le (O : List (List CV)) (p : List CV) : (insA O p).length ≤ O.length + 1 ∧ O.length ≤ (insA O p).length ∧ 0 < (insA O p).length := by
  unfold insA
  cases h : scB O p O.length with
  | true =>
    cases O with
    | nil => cases h
    | cons x l => simp [qyw]
  | false =>
    have := scN_le O p O.length
    simp only [qyw, List.length_append, List.length_take, List.length_singleton, List.length_drop]
    omega
theorem atsL_le (R : List (List CV)) : ∀ k, (atsL R k).length ≤ k ∧ (0 < k → 0 < (atsL R k).length)
  | 0 => ⟨Nat.le_refl _, fun h => absurd h (Nat.lt_irrefl _)⟩
  | k + 1 => by
    have h1 := atsL_le R k
    have h2 := insA_le (atsL R k) (plA (Sx.rowAt R k))
    rw [atsL]; exact ⟨by omega, fun _ => h2.2.2⟩
def okA (a : Nat) (R : List (List CV)) : Prop := a ≤ R.length ∧ a < 9223372036854775808 ∧ ∀ i, i < a → inI (c0 (Sx.rowAt R i)) = true ∧ inI (c1 (Sx.rowAt R i)) = true ∧ inI (c2 (Sx.rowAt R i)) = true
section
variable {R O : List (List CV)} {a : Nat}
theorem ckO_true (hR : okA a R) {i : Nat} (hi : i < a) : ∀ b ∈ ckO R a (i : Int), b = true := by
  obtain ⟨h1, _, h3⟩ := hR
  have e1 : ixN (i : Int) a = true := ixN_nat hi
  have e2 : inR1 (i : Int) R = true := by unfold inR1; rw [Int.toNat_natCast, decide_eq_true (by omega)]; rfl
  obtain ⟨a1, a2, a3⟩ := h3 i hi
  intro b hb
  unfold ckO at hb
  rw [Int.toNat_natCast] at hb
  simp only [List.mem_cons, List.not_mem_nil, or_false] at hb
  rcases hb with rfl | rfl | rfl | rfl | rfl | rfl | rfl | rfl | rfl | rfl | rfl | rfl <;> assumption
theorem insT_run {O : List (List CV)} {n : Nat} {i p0 p1 p2 : Int} (hn : n = O.length) (hs : n ≤ 12) (hb : scB O (mkA p0 p1 p2) n = false) :
    insT R O a n i p0 p1 p2 (scN O (mkA p0 p1 p2) n) = some (.normal, sO R a (.vec 1 (insA O (mkA p0 p1 p2)).length) [some (vA (insA O (mkA p0 p1 p2)))] (up1 i)) := by
  have hg := scN_le O (mkA p0 p1 p2) n
  have eI : insA O (mkA p0 p1 p2) = O.take (scN O (mkA p0 p1 p2) n) ++ [mkA p0 p1 p2] ++ O.drop (scN O (mkA p0 p1 p2) n) := by unfold insA; rw [← hn, hb]; rfl
  rw [eI]
  generalize scN O (mkA p0 p1 p2) n = g at *
  have eT : (O.drop g).take (n - g) = O.drop g := List.take_of_length_le (by rw [List.length_drop]; omega)
  have eL : (O.take g ++ [mkA p0 p1 p2] ++ O.drop g).length = g + 1 + (n - g) := by simp only [List.length_append, List.length_take, List.length_singleton, List.length_drop]; omega
  have lenV : ∀ l : List (List CV), (vA l).len = l.length * 3 := fun l => rfl
  have lenP : (vA O).lenP = O.length * 3 := rfl
  unfold insT
  rw [eT, eL, lenV, lenV, lenV, lenP, qzy (all1 (by rw [decide_eq_true (by omega), decide_eq_true (by omega)]; rfl))]
  by_cases h0 : 0 < g
  · rw [bcT (decide_eq_true h0), qzy]
    intro b hb
    simp only [List.mem_cons, List.not_mem_nil, or_false] at hb
    have r : ∀ m, m ≤ 13 → roomB m 24 = true := fun m hm => by unfold roomB; exact decide_eq_true ⟨by omega, by omega⟩
    have l1 : (O.take g).length = g := by rw [List.length_take]; omega
    have l2 : (O.take g ++ [mkA p0 p1 p2]).length = g + 1 := by rw [List.length_append, l1]; rfl
    rcases hb with rfl | rfl | rfl | rfl
    · rw [decide_eq_true (by omega), r g (by omega)]; rfl
    · rw [decide_eq_true (by rw [l1]), r (g + 1) (by omega)]; rfl
    · rw [decide_eq_true (by omega), decide_eq_true (by omega)]; rfl
    · rw [decide_eq_true (by omega), decide_eq_true (by rw [l2]), r _ (by omega)]; rfl
  · obtain rfl : g = 0 := by omega
    rw [bcF (decide_eq_false (by omega)), qzy]
    · show some (Ex.normal, sO R a (.vec 1 (1 + (n - 0))) _ _) = some (Ex.normal, sO R a (.vec 1 (0 + 1 + (n - 0))) _ _)
      rw [Nat.zero_add]; rfl
    · intro b hb
      simp only [List.mem_cons, List.not_mem_nil, or_false] at hb
      rcases hb with rfl | rfl | rfl
      · exact decide_eq_true (by omega)
      · rw [decide_eq_true (by omega), decide_eq_true (by omega)]; rfl
      · rw [decide_eq_true (by omega), decide_eq_true (by rfl)]; unfold roomB; exact decide_eq_true ⟨by omega, by omega⟩
theorem leafO_run {O : List (List CV)} {n : Nat} {i p0 p1 p2 : Int} (hn : n = O.length) (hs : n ≤ 12) :
    leafO R O a n i p0 p1 p2 (scB O (mkA p0 p1 p2) n) true (scN O (mkA p0 p1 p2) n) = some (.normal, sO R a (.vec 1 (insA O (mkA p0 p1 p2)).length) [some (vA (insA O (mkA p0 p1 p2)))] (up1 i)) := by
  unfold leafO
  rw [qzy (all2 (qzt _) rfl)]
  cases hb : scB O (mkA p0 p1 p2) n with
  | true =>
    have : insA O (mkA p0 p1 p2) = O := by unfold insA; rw [← hn, hb]; rfl
    rw [this, hn]; rfl
  | false => exact insT_run hn hs hb
def sOj (R : List (List CV)) (a : Nat) : Nat → qzw
  | 0 => sO R a .qzz [] 0
  | j + 1 => sO R a (.vec 1 (atsL R (j + 1)).length) [some (vA (atsL R (j + 1)))] ((j + 1 : Nat) : Int)
def sOXj (R : List (List CV)) : Nat → qzw
  | 0 => sOX R .qzz []
  | j + 1 => sOX R (.vec 1 (atsL R (j + 1)).length) [some (vA (atsL R (j + 1)))]
noncomputable abbrev lvS (R : List (List CV)) (a : Nat) (O : List (List CV)) (i : Int) : FuncId → Lv := lvJ R O a O.length i (fun x y z => scB O (mkA x y z) O.length) (fun x y z => scN O (mkA x y z) O.length) true
theorem lvS_ok {O : List (List CV)} {i : Int} (hs : O.length ≤ 1000) : LvOK Tryz.prog (lvS R a O i) := lvOf_ok Tryz.func26 fun x hx id en hid he => by
  obtain ⟨rfl, rfl⟩ := oneL_some he
  have e2 : qyu (bodyOf Tryz.f26) = [loopO1, loopO2] := by kernel_rfl
  rw [e2] at hx
  rcases List.mem_cons.1 hx with rfl | hx
  · have h9 : (headReg loopO1 == some 12) = false := by kernel_rfl
    exact absurd hid (fun e => by rw [e] at h9; exact absurd h9 (by decide))
  · obtain rfl := List.mem_singleton.1 hx
    intro K t
    unfold eJ
    split
    · rename_i p0 p1 p2 _ _ _
      have key := loopJ (R := R) (O := O) (a := a) (i := i) (p0 := p0) (p1 := p1) (p2 := p2) rfl hs
      refine eAt_ok (x := loopO2) (a := outJ R O a O.length i p0 p1 p2 (scB O (mkA p0 p1 p2) O.length) true (scN O (mkA p0 p1 p2) O.length)) ⟨fun _ => ⟨fun h => ?_, fun h => ?_⟩, fun _ => trivial⟩ K t
      · rw [h] at key; exact key
      · rw [h] at key; exact key
    · trivial
theorem roundO (hR : okA a R) {j : Nat} (h12 : j < 12) (hj : j < a) :
    ∃ lv : FuncId → Lv, LvOK Tryz.prog lv ∧ code (ent Tryz.prog tSa lv 64 1 20) Tryz.prog (lv 26) 1 64 1 loopO1 (sOj R a j) (endK 1 64 (fun n => hasN [0, 3, 4] n) (fun n => hasN [3] n)) = some (.normal, sOj R a (j + 1)) := by
  have ck := ckO_true hR hj
  cases j with
  | zero =>
    refine ⟨nolv, qyz, ?_⟩
    have rd := rO0 R a
    rw [bcT (decide_eq_true (by omega)), qzy (show ∀ b ∈ ckO R a 0, b = true from ck)] at rd
    refine rd.trans ?_
    show _ = some (Ex.normal, sO R a (.vec 1 (insA [] (plA (Sx.rowAt R 0))).length) [some (vA (insA [] (plA (Sx.rowAt R 0))))] 1)
    unfold plA
    show qyw (qyv (c1 (Sx.rowAt R 0)) 17 == 16) _ _ = _
    cases qyv (c1 (Sx.rowAt R 0)) 17 == 16 <;> rfl
  | succ j =>
    have hl := atsL_le R (j + 1)
    refine ⟨lvS R a (atsL R (j + 1)) ((j + 1 : Nat) : Int), lvS_ok (by omega), ?_⟩
    have rd := rO1 R (atsL R (j + 1)) a (atsL R (j + 1)).length ((j + 1 : Nat) : Int) (fun x y z => scB (atsL R (j + 1)) (mkA x y z) (atsL R (j + 1)).length) (fun x y z => scN (atsL R (j + 1)) (mkA x y z) (atsL R (j + 1)).length) true
    rw [bcT (decide_eq_true (by omega)), bcT (decide_eq_true (by omega)), qzy ck] at rd
    refine rd.trans ?_
    rw [Int.toNat_natCast, leafO_run rfl (by omega), leafO_run rfl (by omega), up1_nat (by omega)]
    show _ = some (Ex.normal, sO R a (.vec 1 (insA (atsL R (j + 1)) (plA (Sx.rowAt R (j + 1)))).length) [some (vA (insA (atsL R (j + 1)) (plA (Sx.rowAt R (j + 1)))))] ((j + 1 + 1 : Nat) : Int))
    unfold plA
    cases qyv (c1 (Sx.rowAt R (j + 1))) 17 == 16 <;> rfl
abbrev m12 (a : Nat) : Nat := min a 12
theorem loopsO {lv : FuncId → Lv} (hL : LvOK Tryz.prog lv) : LoopsOK Tryz.prog (lv 26) 1 loopO1 := fun x hx id e hid he t => by
  have e1 : qyu loopO1 = [loopO2] := by kernel_rfl
  have e2 : qyu (bodyOf Tryz.f26) = [loopO1, loopO2] := by kernel_rfl
  rw [e1] at hx
  exact hL 26 Tryz.f26 (bodyOf Tryz.f26) Tryz.func26 (by kernel_rfl) 1 x (by rw [e2]; exact List.mem_cons_of_mem _ hx) id e hid he t
theorem loopO (hR : okA a R) : Tri Tryz.prog (.loop loopO1) (sO R a .qzz [] 0).toA (.exit 0) (sOXj R (m12 a)).toA 1 := by
  refine tri_loop (ι := { j : Nat // j ≤ m12 a }) (fun j => (sOj R a j.1).toA) (fun j => m12 a - j.1) (fun e => by cases e) ?_ ⟨0, Nat.zero_le _⟩
  rintro ⟨j, hj⟩
  simp only
  by_cases h : j < m12 a
  · left
    have h' : j < min a 12 := h
    obtain ⟨lv, hL, rd⟩ := roundO hR (j := j) (by omega) (by omega)
    exact ⟨⟨j + 1, h⟩, by simp only; omega, qyy (qzv tSa_ok host hL (NF := 64) (m := 1) 20) (loopsO hL) rd⟩
  · right
    obtain rfl : j = m12 a := by omega
    cases hm : m12 a with
    | zero =>
      have rd := rO0 R a
      rw [bcF (decide_eq_false (by have : min a 12 = 0 := hm; omega))] at rd
      exact qyy (qzv tSa_ok host qyz (NF := 64) (m := 1) 20) (loopsO qyz) rd
    | succ j =>
      have hl := atsL_le R (j + 1)
      have hm' : min a 12 = j + 1 := hm
      have rd := rO1 R (atsL R (j + 1)) a (atsL R (j + 1)).length ((j + 1 : Nat) : Int) (fun x y z => scB (atsL R (j + 1)) (mkA x y z) (atsL R (j + 1)).length) (fun x y z => scN (atsL R (j + 1)) (mkA x y z) (atsL R (j + 1)).length) true
      refine qyy (r := (.exit 0, sOX R (.vec 1 (atsL R (j + 1)).length) [some (vA (atsL R (j + 1)))])) (qzv tSa_ok host (lvS_ok (R := R) (a := a) (O := atsL R (j + 1)) (i := ((j + 1 : Nat) : Int)) (by omega)) (NF := 64) (m := 1) 20) (loopsO (lvS_ok (by omega))) (rd.trans ?_)
      by_cases ha : j + 1 < a
      · rw [bcT (decide_eq_true (by omega)), bcF (decide_eq_false (by omega))]
      · rw [bcF (decide_eq_false (by omega))]
noncomputable def lvO (R : List (List CV)) (a : Nat) (o : AV) (t : List (Option PObj)) (c : Bool) : FuncId → Lv := lvOf 26 (fun _ => some [0, 3, 4]) (oneL 3 (eAt 1 (sO R a .qzz [] 0) (.chk c (.out (.exit 0) (sOX R o t)))))
theorem sa_nil (R : List (List CV)) (a : Nat) (c : Bool) : Comes [] (lvO R a .qzz [] c) 26 [.dsl 0 a] [fA R] (.chk (eqSt (sO R a .qzz [] 0) (sO R a .qzz [] 0)) (.chk c (.ret .qzz [fA R]))) := by unfold Comes; kernel_rfl
theorem sa_vec (R L : List (List CV)) (a m : Nat) (c : Bool) : Comes [] (lvO R a (.vec 1 m) [some (vA L)] c) 26 [.dsl 0 a] [fA R] (.chk (eqSt (sO R a .qzz [] 0) (sO R a .qzz [] 0)) (.chk c (.ret (.vec 1 m) [fA R, vA L]))) := by unfold Comes; kernel_rfl
theorem lvO_ok {o : AV} {t : List (Option PObj)} (hR : okA a R) (h : sOXj R (m12 a) = sOX R o t) : LvOK Tryz.prog (lvO R a o t true) := lvOf_ok Tryz.func26 fun x hx id en hid he => by
  obtain ⟨rfl, rfl⟩ := oneL_some he
  have e2 : qyu (bodyOf Tryz.f26) = [loopO1, loopO2] := by kernel_rfl
  rw [e2] at hx
  rcases List.mem_cons.1 hx with rfl | hx
  · exact fun K t' => eAt_ok (a := .chk true (.out (.exit 0) (sOX R o t))) ⟨fun _ => by
      have := loopO hR
      rw [h] at this; exact this, fun _ => trivial⟩ K t'
  · obtain rfl := List.mem_singleton.1 hx
    have h9 : (headReg loopO2 == some 3) = false := by kernel_rfl
    exact absurd hid (fun e => by rw [e] at h9; exact absurd h9 (by decide))
open Classical in
noncomputable def eSats : Ent := fun args pre => match args, pre with
  | [.dsl j a], [.raw (.flatR m sh R)] => .chk (Nat.beq j 0 && shEq sh shA && !m) (.chk (decide (okA a R)) (.br (Nat.beq a 0) (.ret .qzz [.raw (.flatR m sh R)]) (.ret (.vec 1 (atsL R (m12 a)).length) [.raw (.flatR m sh R), vA (atsL R (m12 a))])))
  | _, _ => .fail
open Classical in
theorem eSats_ok : EntOK Tryz.prog 26 eSats := fun args pre => by
  unfold eSats
  split
  · rename_i j a m sh R
    refine ⟨fun g0 => ⟨fun g1 => ?_, fun _ => trivial⟩, fun _ => trivial⟩
    rw [Bool.and_eq_true, Bool.and_eq_true, beqT] at g0
    obtain ⟨⟨rfl, g⟩, gm⟩ := g0
    obtain rfl := shEq_of g
    cases m with
    | true => cases gm
    | false =>
    have g1 := of_decide_eq_true g1
    refine ⟨fun h => ?_, fun h => ?_⟩
    · obtain rfl := Nat.eq_of_beq_eq_true h
      refine qyx (T := []) (pre := [fA R]) (post := [fA R]) .nil host ((sa_nil R 0 true).trans ?_) (lvO_ok g1 rfl)
      rw [chkT (qzt _), chkT rfl]; rfl
    · have h0 : a ≠ 0 := fun e => by rw [e] at h; cases h
      refine qyx (T := []) (pre := [fA R]) (post := [fA R, vA (atsL R (m12 a))]) .nil host ((sa_vec R (atsL R (m12 a)) a (atsL R (m12 a)).length true).trans ?_) (lvO_ok g1 ?_)
      · rw [chkT (qzt _), chkT rfl]; rfl
      · cases hm : m12 a with
        | zero => have : min a 12 = 0 := hm; omega
        | succ j => rfl
  · trivial
end
end Go.Proofs.YtphhepnldndbhaaGreatDoor
namespace Go.Proofs.YtphhepnldndbhaaGreatDoor
open Go Sx
def shZ : List CK := [.int .i64, .int .i64]
abbrev fZ (R : List (List CV)) : PObj := .raw (.flatR false shZ R)
def shS : List CK := [.int .i64, .int .i64, .int .i64, .int .i64, .int .i64]
abbrev vS (R : List (List CV)) : PObj := .vecR shS R 27
abbrev c3 (x : List CV) : Int := (rowCV x 3).n
abbrev c4 (x : List CV) : Int := (rowCV x 4).n
def mkS (s r c h w : Int) : List CV := [.mk s [] false [], .mk r [] false [], .mk c [] false [], .mk h [] false [], .mk w [] false []]
noncomputable def tSp : Tab := [(13, ePick), (26, eSats)]
theorem tSp_ok : TabOK Tryz.prog tSp := .cons ePick_ok (.cons eSats_ok .nil)
noncomputable abbrev loopP : Code := (qyu (bodyOf Tryz.f12)).headD .skip
def spR (x n : List CV) : List CV := mkS (c0 x) (c1 x) (c2 x) (qyv (c0 n) 6) (w64 (1 + qyv (c1 n) 5))
section
variable (R Z A L : List (List CV)) (z m k : Nat) (i : Int)
def sPn (i : Int) : qzw := ⟨none :: some (.dsl 1 z) :: none :: none :: none :: some .qzz :: some (.vec 2 m) :: some (.int .i64 i) :: nn 41, some (fA R) :: some (fZ Z) :: some (vA A) :: nn 64⟩
def sPv (i : Int) : qzw := ⟨none :: some (.dsl 1 z) :: none :: none :: none :: some (.vec 2 k) :: some (.vec 3 m) :: some (.int .i64 i) :: nn 41, some (fA R) :: some (fZ Z) :: some (vS L) :: some (vA A) :: nn 64⟩
def sPnX : qzw := ⟨none :: none :: none :: none :: none :: some .qzz :: nn 43, some (fA R) :: some (fZ Z) :: nn 64⟩
def sPvX : qzw := ⟨none :: none :: none :: none :: none :: some (.vec 2 k) :: nn 43, some (fA R) :: some (fZ Z) :: some (vS L) :: nn 64⟩
def zAt (i : Int) : List CV := Sx.rowAt Z (Int.tmod i z).toNat
def ckP1 (i : Int) : List Bool := [(z : Int) != 0, ixN (Int.tmod i z) z, inR (Int.tmod i z) Z, inI (c0 (zAt Z z i))]
def ckP2 (i : Int) : List Bool := [ixN i m, inR i A, inI (c0 (zAt Z z i)), inI (c1 (zAt Z z i))]
theorem rPn : code (ent Tryz.prog tSp nolv 64 1 20) Tryz.prog {} 2 64 1 loopP (sPn R Z A z m i) (endK 2 64 (fun n => hasN [1, 5, 6, 7] n) (fun n => hasN [5] n))
  = qyw (decide (i < (m : Int))) (qyw (decide ((z : Int) > 0)) (chks (qyw (decide (qyv (c0 (zAt Z z i)) 6 > 0)) (chks (some (.normal, sPv R Z A [spR (Sx.rowAt A i.toNat) (zAt Z z i)] z m 1 (up1 i))) (ckP2 Z A z m i)) (some (.normal, sPn R Z A z m (up1 i)))) (ckP1 Z z i)) (some (.exit 0, sPnX R Z))) (some (.exit 0, sPnX R Z)) := by kernel_rfl
theorem rPv : code (ent Tryz.prog tSp nolv 64 1 20) Tryz.prog {} 2 64 1 loopP (sPv R Z A L z m k i) (endK 2 64 (fun n => hasN [1, 5, 6, 7] n) (fun n => hasN [5] n))
  = qyw (decide (i < (m : Int))) (qyw (decide ((z : Int) > 0)) (chks (qyw (decide (qyv (c0 (zAt Z z i)) 6 > 0)) (chks (chks (some (.normal, sPv R Z A (L ++ [spR (Sx.rowAt A i.toNat) (zAt Z z i)]) z m (k + 1) (up1 i))) [decide ((vS L).len = k * 5) && roomB (k + 1) 40]) (ckP2 Z A z m i)) (some (.normal, sPv R Z A L z m k (up1 i)))) (ckP1 Z z i)) (some (.exit 0, sPvX R Z L k))) (some (.exit 0, sPvX R Z L k)) := by kernel_rfl
end
end Go.Proofs.YtphhepnldndbhaaGreatDoor
namespace Go.Proofs.YtphhepnldndbhaaGreatDoor
open Go Sx
def isNil : List (List CV) → Bool
  | [] => true
  | _ :: _ => false
def spL (A Z : List (List CV)) (z : Nat) : Nat → List (List CV)
  | 0 => []
  | j + 1 => qyw (decide (qyv (c0 (Sx.rowAt Z (j % z))) 6 > 0)) (spL A Z z j ++ [spR (Sx.rowAt A j) (Sx.rowAt Z (j % z))]) (spL A Z z j)
theorem spL_le (A Z : List (List CV)) (z : Nat) : ∀ j, (spL A Z z j).length ≤ j
  | 0 => Nat.le_refl _
  | j + 1 => by
    have := spL_le A Z z j
    rw [spL]
    cases decide (qyv (c0 (Sx.rowAt Z (j % z))) 6 > 0) <;> simp only [qyw, List.length_append, List.length_singleton] <;> omega
def okZ (z : Nat) (Z : List (List CV)) : Prop := z ≤ Z.length ∧ z < 9223372036854775808 ∧ ∀ i, i < z → inI (c0 (Sx.rowAt Z i)) = true ∧ inI (c1 (Sx.rowAt Z i)) = true
def spA (A Z : List (List CV)) (z : Nat) : List (List CV) := qyw (Nat.beq z 0) [] (spL A Z z A.length)
section
variable {R Z A : List (List CV)} {z m : Nat}
def sPj (R Z A : List (List CV)) (z m j : Nat) : qzw := match spL A Z z j with
  | [] => sPn R Z A z m j
  | L => sPv R Z A L z m L.length j
def sPjX (R Z : List (List CV)) : List (List CV) → qzw
  | [] => sPnX R Z
  | L => sPvX R Z L L.length
theorem roundP (hZ : okZ z Z) (h0 : 0 < z) (hm : m = A.length) (hs : m ≤ 12) {j : Nat} (hj : j < m) : code (ent Tryz.prog tSp nolv 64 1 20) Tryz.prog {} 2 64 1 loopP (sPj R Z A z m j) (endK 2 64 (fun n => hasN [1, 5, 6, 7] n) (fun n => hasN [5] n)) = some (.normal, sPj R Z A z m (j + 1)) := by
  have hlt := Nat.mod_lt j h0
  obtain ⟨z1, z2⟩ := hZ.2.2 (j % z) hlt
  have hz := hZ.1
  have et : Int.tmod (j : Int) (z : Int) = ((j % z : Nat) : Int) := rfl
  have ez : zAt Z z (j : Int) = Sx.rowAt Z (j % z) := by unfold zAt; rw [et, Int.toNat_natCast]
  have k1 : ∀ b ∈ ckP1 Z z (j : Int), b = true := by
    intro b hb
    unfold ckP1 at hb
    rw [et, ez] at hb
    simp only [List.mem_cons, List.not_mem_nil, or_false] at hb
    rcases hb with rfl | rfl | rfl | rfl
    · exact bne_iff_ne.2 (by omega)
    · exact ixN_nat hlt
    · exact inR_nat (by omega)
    · exact z1
  have k2 : ∀ b ∈ ckP2 Z A z m (j : Int), b = true := by
    intro b hb
    unfold ckP2 at hb
    rw [ez] at hb
    simp only [List.mem_cons, List.not_mem_nil, or_false] at hb
    rcases hb with rfl | rfl | rfl | rfl
    · exact ixN_nat hj
    · exact inR_nat (by omega)
    · exact z1
    · exact z2
  have hle := spL_le A Z z j
  have eS : spL A Z z (j + 1) = qyw (decide (qyv (c0 (Sx.rowAt Z (j % z))) 6 > 0)) (spL A Z z j ++ [spR (Sx.rowAt A j) (Sx.rowAt Z (j % z))]) (spL A Z z j) := rfl
  unfold sPj
  rw [eS]
  cases hL : spL A Z z j with
  | nil =>
    simp only [List.nil_append]
    rw [rPn, bcT (decide_eq_true (by omega)), bcT (decide_eq_true (by omega)), qzy k1, qzy k2, ez, Int.toNat_natCast, up1_nat (by omega)]
    cases decide (qyv (c0 (Sx.rowAt Z (j % z))) 6 > 0) <;> rfl
  | cons x L =>
    rw [hL] at hle
    simp only
    rw [rPv, bcT (decide_eq_true (by omega)), bcT (decide_eq_true (by omega)), qzy k1, qzy k2, qzy (all1 (by
      rw [decide_eq_true (show (vS (x :: L)).len = (x :: L).length * 5 from rfl)]; unfold roomB; exact decide_eq_true ⟨by omega, by omega⟩)), ez, Int.toNat_natCast, up1_nat (by omega)]
    cases decide (qyv (c0 (Sx.rowAt Z (j % z))) 6 > 0) with
    | true =>
      simp only [qyw, List.cons_append]
      have : (x :: (L ++ [spR (Sx.rowAt A j) (Sx.rowAt Z (j % z))])).length = (x :: L).length + 1 := by simp
      rw [this]
    | false => rfl
theorem loopPP (hZ : okZ z Z) (hm : m = A.length) (hs : m ≤ 12) : Tri Tryz.prog (.loop loopP) (sPn R Z A z m 0).toA (.exit 0) (sPjX R Z (spA A Z z)).toA 2 := by
  by_cases hz : z = 0
  · subst hz
    have key := loop_rounds (qzv (T := tSp) tSp_ok host qyz (NF := 64) (m := 1) 20) (NF := 64) (m := 1) (x := loopP) (K := 2) qyt (fun n => hasN [1, 5, 6, 7] n) (fun n => hasN [5] n) (ι := Unit) (fun _ => sPn R Z A 0 m 0) (fun _ => 0) (fun _ => (.exit 0, sPnX R Z)) (fun _ => .inr (by
      rw [rPn]
      cases decide ((0 : Int) < (m : Int)) <;> rfl)) (fun _ => fun e => by cases e) ()
    exact key
  · have e0 : spA A Z z = spL A Z z m := by unfold spA; rw [show Nat.beq z 0 = false from Bool.eq_false_iff.2 fun e => hz (beqT.1 e), hm]; rfl
    rw [e0]
    have key := loop_rounds (qzv (T := tSp) tSp_ok host qyz (NF := 64) (m := 1) 20) (NF := 64) (m := 1) (x := loopP) (K := 2) qyt (fun n => hasN [1, 5, 6, 7] n) (fun n => hasN [5] n) (ι := { j : Nat // j ≤ m }) (fun j => sPj R Z A z m j.1) (fun j => m - j.1) (fun _ => (.exit 0, sPjX R Z (spL A Z z m))) ?_ (fun _ => fun e => by cases e) ⟨0, Nat.zero_le _⟩
    · exact key
    rintro ⟨j, hj⟩
    simp only
    by_cases h : j < m
    · exact .inl ⟨⟨j + 1, h⟩, by simp only; omega, trivial, roundP hZ (by omega) hm hs h⟩
    · obtain rfl : j = m := by omega
      right
      unfold sPj
      cases hL : spL A Z z j with
      | nil => simp only; rw [rPn, bcF (decide_eq_false (by omega))]; rfl
      | cons x L => simp only; rw [rPv, bcF (decide_eq_false (by omega))]; rfl
end
def sPz (R Z : List (List CV)) (z : Nat) : qzw := ⟨none :: some (.dsl 1 z) :: none :: none :: none :: some .qzz :: some .qzz :: some (.int .i64 0) :: nn 41, some (fA R) :: some (fZ Z) :: nn 64⟩
theorem rPz (R Z : List (List CV)) (z : Nat) : code (ent Tryz.prog tSp nolv 64 1 20) Tryz.prog {} 2 64 1 loopP (sPz R Z z) (endK 2 64 (fun n => hasN [1, 5, 6, 7] n) (fun n => hasN [5] n)) = some (.exit 0, sPnX R Z) := by kernel_rfl
noncomputable def eP (R Z A : List (List CV)) (z m : Nat) (x : LAns) : Nat → qzw → LAns := fun K st => match st.slots with
  | _ :: _ :: _ :: _ :: _ :: _ :: some .qzz :: _ => eAt 2 (sPz R Z z) (.out (.exit 0) (sPnX R Z)) K st
  | _ => eAt 2 (sPn R Z A z m 0) x K st
noncomputable def lvP (R Z A : List (List CV)) (z m : Nat) (x : LAns) : FuncId → Lv := lvOf 12 (fun _ => some [1, 5, 6, 7]) (oneL 4 (eP R Z A z m x))
theorem lvP_ok {R Z A : List (List CV)} {z m : Nat} {x : LAns} (hx : LAnsOK Tryz.prog loopP 2 (sPn R Z A z m 0) x) : LvOK Tryz.prog (lvP R Z A z m x) := lvOne_ok (x := loopP) Tryz.func12 (by kernel_rfl) fun K t => by
  unfold eP
  split
  · refine eAt_ok (x := loopP) ?_ K t
    have key := loop_rounds (qzv (T := tSp) tSp_ok host qyz (NF := 64) (m := 1) 20) (NF := 64) (m := 1) (x := loopP) (K := 2) qyt (fun n => hasN [1, 5, 6, 7] n) (fun n => hasN [5] n) (ι := Unit) (fun _ => sPz R Z z) (fun _ => 0) (fun _ => (.exit 0, sPnX R Z)) (fun _ => .inr (rPz R Z z)) (fun _ => fun e => by cases e) ()
    exact key
  · exact eAt_ok hx K t
open Classical in
theorem sp_nil (R Z : List (List CV)) (a z : Nat) (c : Bool) : Comes tSp (lvP R Z (atsL R (m12 a)) z (atsL R (m12 a)).length (.chk c (.out (.exit 0) (sPnX R Z)))) 12 [.dsl 0 a, .dsl 1 z] [fA R, fZ Z]
  (.chk (decide (okA a R)) (.br (Nat.beq a 0) (.chk (eqSt (sPz R Z z) (sPz R Z z)) (.ret .qzz [fA R, fZ Z])) (.chk (eqSt (sPn R Z (atsL R (m12 a)) z (atsL R (m12 a)).length 0) (sPn R Z (atsL R (m12 a)) z (atsL R (m12 a)).length 0)) (.chk c (.ret .qzz [fA R, fZ Z]))))) := by unfold Comes; kernel_rfl
open Classical in
theorem sp_vec (R Z L : List (List CV)) (a z k : Nat) (c : Bool) : Comes tSp (lvP R Z (atsL R (m12 a)) z (atsL R (m12 a)).length (.chk c (.out (.exit 0) (sPvX R Z L k)))) 12 [.dsl 0 a, .dsl 1 z] [fA R, fZ Z]
  (.chk (decide (okA a R)) (.br (Nat.beq a 0) (.chk (eqSt (sPz R Z z) (sPz R Z z)) (.ret .qzz [fA R, fZ Z])) (.chk (eqSt (sPn R Z (atsL R (m12 a)) z (atsL R (m12 a)).length 0) (sPn R Z (atsL R (m12 a)) z (atsL R (m12 a)).length 0)) (.chk c (.ret (.vec 2 k) [fA R, fZ Z, vS L]))))) := by unfold Comes; kernel_rfl
def spW (R : List (List CV)) (a : Nat) (Z : List (List CV)) (z : Nat) : List (List CV) := spA (atsL R (m12 a)) Z z
open Classical in
noncomputable def eSpl : Ent := fun args pre => match args, pre with
  | [.dsl j a, .dsl j' z], [.raw (.flatR f sh R), .raw (.flatR f' sh' Z)] => .chk (Nat.beq j 0 && shEq sh shA && !f && (Nat.beq j' 1 && shEq sh' shZ && !f')) (.chk (decide (okA a R ∧ okZ z Z)) (.br (isNil (spW R a Z z)) (.ret .qzz [.raw (.flatR f sh R), .raw (.flatR f' sh' Z)]) (.ret (.vec 2 (spW R a Z z).length) [.raw (.flatR f sh R), .raw (.flatR f' sh' Z), vS (spW R a Z z)])))
  | _, _ => .fail
open Classical in
theorem eSpl_ok : EntOK Tryz.prog 12 eSpl := fun args pre => by
  unfold eSpl
  split
  · rename_i j a j' z f sh R f' sh' Z
    refine ⟨fun g0 => ⟨fun g1 => ?_, fun _ => trivial⟩, fun _ => trivial⟩
    simp only [Bool.and_eq_true, beqT, Bool.not_eq_true'] at g0
    obtain ⟨⟨⟨rfl, g⟩, rfl⟩, ⟨rfl, g'⟩, rfl⟩ := g0
    obtain rfl := shEq_of g
    obtain rfl := shEq_of g'
    obtain ⟨hR, hZ⟩ := of_decide_eq_true g1
    have hl := atsL_le R (m12 a)
    have key := loopPP (R := R) (Z := Z) (A := atsL R (m12 a)) (z := z) (m := (atsL R (m12 a)).length) hZ rfl (by have : m12 a ≤ 12 := Nat.min_le_right ..; omega)
    have ez : spA (atsL R (m12 a)) Z z = spW R a Z z := rfl
    rw [ez] at key
    refine ⟨fun h => ?_, fun h => ?_⟩
    · cases hw : spW R a Z z with
      | cons x L => rw [hw] at h; cases h
      | nil =>
        rw [hw] at key
        refine qyx (pre := [fA R, fZ Z]) (post := [fA R, fZ Z]) tSp_ok host ((sp_nil R Z a z true).trans ?_) (lvP_ok ⟨fun _ => key, fun _ => trivial⟩)
        rw [chkT (decide_eq_true hR)]
        cases Nat.beq a 0 with
        | true => rw [brT rfl, chkT (qzt _)]; rfl
        | false => rw [brF rfl, chkT (qzt _), chkT rfl]; rfl
    · cases hw : spW R a Z z with
      | nil => rw [hw] at h; cases h
      | cons x L =>
        rw [hw] at key
        refine qyx (pre := [fA R, fZ Z]) (post := [fA R, fZ Z, vS (x :: L)]) tSp_ok host ((sp_vec R Z (x :: L) a z (x :: L).length true).trans ?_) (lvP_ok ⟨fun _ => key, fun _ => trivial⟩)
        rw [chkT (decide_eq_true hR)]
        have ha : Nat.beq a 0 = false := by
          rw [Bool.eq_false_iff]; intro e
          obtain rfl := beqT.1 e
          have : spW R 0 Z z = [] := by unfold spW spA; cases Nat.beq z 0 <;> rfl
          rw [this] at hw; cases hw
        rw [brF ha, chkT (qzt _), chkT rfl]; rfl
  · trivial
end Go.Proofs.YtphhepnldndbhaaGreatDoor
namespace Go.Proofs.YtphhepnldndbhaaGreatDoor
open Go Sx
def sqA : Code → Code
  | .seq a _ => a
  | c => c
def sqB : Code → Code
  | .seq _ b => b
  | c => c
def blB : Code → Code
  | .block _ b => b
  | c => c
noncomputable def tBk : Tab := [(26, eSats)]
theorem tBk_ok : TabOK Tryz.prog tBk := .cons eSats_ok .nil
noncomputable abbrev loopK : Code := (qyu (bodyOf Tryz.f11)).headD .skip
noncomputable def loK1 : Code := sqA loopK
noncomputable def loK6 : Code := sqA (blB (sqA (sqB loopK)))
noncomputable def loK7 : Code := sqB (blB (sqA (sqB loopK)))
noncomputable def loK5 : Code := sqB (sqB loopK)
theorem loK_shape : loopK = .seq loK1 (.seq (.block 1 (.seq loK6 loK7)) loK5) := by kernel_rfl
def shC : List CK := [.int .i64, .int .i64, .str]
abbrev vC (X : List (List CV)) : PObj := .vecR shC X 63
def mkC (r c : Int) : List CV := [.mk r [] false [], .mk c [] false [], .mk 0 [49] false []]
abbrev oB4 (s : AV) : PObj := .raw (.cells [s, .qzz, .qzz, .qzz] 35)
abbrev oSh (x y : AV) : PObj := .raw (.cells [.str [83], x, .str [84], y] 61)
section
variable (R A X Y : List (List CV)) (m p q : Nat) (i : Int) (x y : AV) (t : List (Option PObj))
def sB : qzw := ⟨none :: none :: some (.ptr 1 0) :: some (.ptr 2 0) :: some (.vec 3 m) :: some (.int .i64 i) :: nn 43, some (fA R) :: some (oB4 .qzz) :: some (oB4 (.slice 4 0 2 2)) :: some (vA A) :: some (oSh x y) :: (t ++ nn 64)⟩
def sB6 (s : Int) : qzw := ⟨none :: none :: some (.ptr 1 0) :: some (.ptr 2 0) :: some (.vec 3 m) :: some (.int .i64 i) :: some (.int .i64 s) :: nn 42, some (fA R) :: some (oB4 .qzz) :: some (oB4 (.slice 4 0 2 2)) :: some (vA A) :: some (oSh x y) :: (t ++ nn 64)⟩
def sBX : qzw := ⟨none :: none :: some (.ptr 1 0) :: some (.ptr 2 0) :: nn 45, some (fA R) :: some (oB4 .qzz) :: some (oB4 (.slice 3 0 2 2)) :: some (oSh x y) :: (t ++ nn 64)⟩
def ckB : List Bool := [ixN i m, inR i A]
def cellR : List CV := mkC (c1 (Sx.rowAt A i.toNat)) (c2 (Sx.rowAt A i.toNat))
theorem bk1 : code (ent Tryz.prog tBk nolv 64 1 20) Tryz.prog {} 1 64 1 loK1 (sB R A m i .qzz .qzz []) (endK 1 64 (fun n => hasN [2, 3, 4, 5] n) (fun n => hasN [2, 3] n)) = qyw (decide (i < (m : Int))) (some (.normal, sB R A m i .qzz .qzz [])) (some (.exit 0, sBX R .qzz .qzz [])) := by kernel_rfl
theorem bk1x : code (ent Tryz.prog tBk nolv 64 1 20) Tryz.prog {} 1 64 1 loK1 (sB R A m i (.vec 5 p) .qzz [some (vC X)]) (endK 1 64 (fun n => hasN [2, 3, 4, 5] n) (fun n => hasN [2, 3] n)) = qyw (decide (i < (m : Int))) (some (.normal, sB R A m i (.vec 5 p) .qzz [some (vC X)])) (some (.exit 0, sBX R (.vec 4 p) .qzz [some (vC X)])) := by kernel_rfl
theorem bk1y : code (ent Tryz.prog tBk nolv 64 1 20) Tryz.prog {} 1 64 1 loK1 (sB R A m i .qzz (.vec 5 q) [some (vC Y)]) (endK 1 64 (fun n => hasN [2, 3, 4, 5] n) (fun n => hasN [2, 3] n)) = qyw (decide (i < (m : Int))) (some (.normal, sB R A m i .qzz (.vec 5 q) [some (vC Y)])) (some (.exit 0, sBX R .qzz (.vec 4 q) [some (vC Y)])) := by kernel_rfl
theorem bk1b : code (ent Tryz.prog tBk nolv 64 1 20) Tryz.prog {} 1 64 1 loK1 (sB R A m i (.vec 5 p) (.vec 6 q) [some (vC X), some (vC Y)]) (endK 1 64 (fun n => hasN [2, 3, 4, 5] n) (fun n => hasN [2, 3] n)) = qyw (decide (i < (m : Int))) (some (.normal, sB R A m i (.vec 5 p) (.vec 6 q) [some (vC X), some (vC Y)])) (some (.exit 0, sBX R (.vec 4 p) (.vec 5 q) [some (vC X), some (vC Y)])) := by kernel_rfl
theorem bk6 : code (ent Tryz.prog tBk nolv 64 1 20) Tryz.prog {} 1 64 1 loK6 (sB R A m i .qzz .qzz []) (endK 1 64 (fun n => hasN [2, 3, 4, 5, 6] n) (fun n => hasN [2, 3] n)) = chks (some (.normal, sB6 R A m i .qzz .qzz [] (c0 (Sx.rowAt A i.toNat)))) (ckB A m i) := by kernel_rfl
theorem bk6x : code (ent Tryz.prog tBk nolv 64 1 20) Tryz.prog {} 1 64 1 loK6 (sB R A m i (.vec 5 p) .qzz [some (vC X)]) (endK 1 64 (fun n => hasN [2, 3, 4, 5, 6] n) (fun n => hasN [2, 3] n)) = chks (some (.normal, sB6 R A m i (.vec 5 p) .qzz [some (vC X)] (c0 (Sx.rowAt A i.toNat)))) (ckB A m i) := by kernel_rfl
theorem bk6y : code (ent Tryz.prog tBk nolv 64 1 20) Tryz.prog {} 1 64 1 loK6 (sB R A m i .qzz (.vec 5 q) [some (vC Y)]) (endK 1 64 (fun n => hasN [2, 3, 4, 5, 6] n) (fun n => hasN [2, 3] n)) = chks (some (.normal, sB6 R A m i .qzz (.vec 5 q) [some (vC Y)] (c0 (Sx.rowAt A i.toNat)))) (ckB A m i) := by kernel_rfl
theorem bk6b : code (ent Tryz.prog tBk nolv 64 1 20) Tryz.prog {} 1 64 1 loK6 (sB R A m i (.vec 5 p) (.vec 6 q) [some (vC X), some (vC Y)]) (endK 1 64 (fun n => hasN [2, 3, 4, 5, 6] n) (fun n => hasN [2, 3] n)) = chks (some (.normal, sB6 R A m i (.vec 5 p) (.vec 6 q) [some (vC X), some (vC Y)] (c0 (Sx.rowAt A i.toNat)))) (ckB A m i) := by kernel_rfl
def ckC (X : List (List CV)) (p : Nat) : List Bool := ckB A m i ++ ckB A m i ++ [decide ((vC X).len = p * 3) && roomB (p + 1) 32]
theorem bk70 : code (ent Tryz.prog tBk nolv 64 1 20) Tryz.prog {} 1 64 1 loK7 (sB6 R A m i .qzz .qzz [] 0) (endK 1 64 (fun n => hasN [2, 3, 4, 5] n) (fun n => hasN [2, 3] n)) = chks (some (.normal, sB R A m i (.vec 5 1) .qzz [some (vC [cellR A i])])) (ckB A m i ++ ckB A m i) := by kernel_rfl
theorem bk71 : code (ent Tryz.prog tBk nolv 64 1 20) Tryz.prog {} 1 64 1 loK7 (sB6 R A m i .qzz .qzz [] 1) (endK 1 64 (fun n => hasN [2, 3, 4, 5] n) (fun n => hasN [2, 3] n)) = chks (some (.normal, sB R A m i .qzz (.vec 5 1) [some (vC [cellR A i])])) (ckB A m i ++ ckB A m i) := by kernel_rfl
theorem bk7x0 : code (ent Tryz.prog tBk nolv 64 1 20) Tryz.prog {} 1 64 1 loK7 (sB6 R A m i (.vec 5 p) .qzz [some (vC X)] 0) (endK 1 64 (fun n => hasN [2, 3, 4, 5] n) (fun n => hasN [2, 3] n)) = chks (some (.normal, sB R A m i (.vec 5 (p + 1)) .qzz [some (vC (X ++ [cellR A i]))])) (ckC A m i X p) := by kernel_rfl
theorem bk7x1 : code (ent Tryz.prog tBk nolv 64 1 20) Tryz.prog {} 1 64 1 loK7 (sB6 R A m i (.vec 5 p) .qzz [some (vC X)] 1) (endK 1 64 (fun n => hasN [2, 3, 4, 5] n) (fun n => hasN [2, 3] n)) = chks (some (.normal, sB R A m i (.vec 5 p) (.vec 6 1) [some (vC X), some (vC [cellR A i])])) (ckB A m i ++ ckB A m i) := by kernel_rfl
theorem bk7y0 : code (ent Tryz.prog tBk nolv 64 1 20) Tryz.prog {} 1 64 1 loK7 (sB6 R A m i .qzz (.vec 5 q) [some (vC Y)] 0) (endK 1 64 (fun n => hasN [2, 3, 4, 5] n) (fun n => hasN [2, 3] n)) = chks (some (.normal, sB R A m i (.vec 5 1) (.vec 6 q) [some (vC [cellR A i]), some (vC Y)])) (ckB A m i ++ ckB A m i) := by kernel_rfl
theorem bk7y1 : code (ent Tryz.prog tBk nolv 64 1 20) Tryz.prog {} 1 64 1 loK7 (sB6 R A m i .qzz (.vec 5 q) [some (vC Y)] 1) (endK 1 64 (fun n => hasN [2, 3, 4, 5] n) (fun n => hasN [2, 3] n)) = chks (some (.normal, sB R A m i .qzz (.vec 5 (q + 1)) [some (vC (Y ++ [cellR A i]))])) (ckC A m i Y q) := by kernel_rfl
theorem bk7b0 : code (ent Tryz.prog tBk nolv 64 1 20) Tryz.prog {} 1 64 1 loK7 (sB6 R A m i (.vec 5 p) (.vec 6 q) [some (vC X), some (vC Y)] 0) (endK 1 64 (fun n => hasN [2, 3, 4, 5] n) (fun n => hasN [2, 3] n)) = chks (some (.normal, sB R A m i (.vec 5 (p + 1)) (.vec 6 q) [some (vC (X ++ [cellR A i])), some (vC Y)])) (ckC A m i X p) := by kernel_rfl
theorem bk7b1 : code (ent Tryz.prog tBk nolv 64 1 20) Tryz.prog {} 1 64 1 loK7 (sB6 R A m i (.vec 5 p) (.vec 6 q) [some (vC X), some (vC Y)] 1) (endK 1 64 (fun n => hasN [2, 3, 4, 5] n) (fun n => hasN [2, 3] n)) = chks (some (.normal, sB R A m i (.vec 5 p) (.vec 6 (q + 1)) [some (vC X), some (vC (Y ++ [cellR A i]))])) (ckC A m i Y q) := by kernel_rfl
theorem bk5x : code (ent Tryz.prog tBk nolv 64 1 20) Tryz.prog {} 1 64 1 loK5 (sB R A m i (.vec 5 p) .qzz [some (vC X)]) (endK 1 64 (fun n => hasN [2, 3, 4, 5] n) (fun n => hasN [2, 3] n)) = some (.normal, sB R A m (up1 i) (.vec 5 p) .qzz [some (vC X)]) := by kernel_rfl
theorem bk5y : code (ent Tryz.prog tBk nolv 64 1 20) Tryz.prog {} 1 64 1 loK5 (sB R A m i .qzz (.vec 5 q) [some (vC Y)]) (endK 1 64 (fun n => hasN [2, 3, 4, 5] n) (fun n => hasN [2, 3] n)) = some (.normal, sB R A m (up1 i) .qzz (.vec 5 q) [some (vC Y)]) := by kernel_rfl
theorem bk5b : code (ent Tryz.prog tBk nolv 64 1 20) Tryz.prog {} 1 64 1 loK5 (sB R A m i (.vec 5 p) (.vec 6 q) [some (vC X), some (vC Y)]) (endK 1 64 (fun n => hasN [2, 3, 4, 5] n) (fun n => hasN [2, 3] n)) = some (.normal, sB R A m (up1 i) (.vec 5 p) (.vec 6 q) [some (vC X), some (vC Y)]) := by kernel_rfl
end
end Go.Proofs.YtphhepnldndbhaaGreatDoor
namespace Go.Proofs.YtphhepnldndbhaaGreatDoor
open Go Sx
theorem tri_blockN {x : Code} {s s1 : AState} {id K : Nat} (h : Tri Tryz.prog x s .normal s1 K) : Tri Tryz.prog (.block id x) s .normal s1 K := fun ro w0 M E a w hro hR => by
  refine wpIn_block (wpIn_mono (h ro w0 M E a w hro hR) ?_)
  rintro e a' w' ⟨rfl, E', hle, h'⟩
  exact ⟨rfl, E', hle, h'⟩
theorem bkS {x : Code} {S S' : qzw} {kn kx : Nat → Bool} {ex : Ex} (h : code (ent Tryz.prog tBk nolv 64 1 20) Tryz.prog {} 1 64 1 x S (endK 1 64 kn kx) = some (ex, S')) : Tri Tryz.prog x S.toA ex S'.toA 1 :=
  qyy (qzv tBk_ok host qyz (NF := 64) (m := 1) 20) qyt h
theorem tri_seqX {a b : Code} {s s1 : AState} {ex : Ex} {K : Nat} (hne : ex ≠ .normal) (h : Tri Tryz.prog a s ex s1 K) : Tri Tryz.prog (.seq a b) s ex s1 K := fun ro w0 M E ac w hro hR => by
  refine wpIn_seq (wpIn_mono (h ro w0 M E ac w (no_left hro) hR) ?_)
  rintro e a' w' ⟨rfl, E', hle, h'⟩
  cases ex with
  | normal => exact absurd rfl hne
  | exit id => exact ⟨rfl, E', hle, h'⟩
  | ret => exact ⟨rfl, E', hle, h'⟩
abbrev kB : Nat → Bool := fun n => hasN [2, 3, 4, 5] n
abbrev kB6 : Nat → Bool := fun n => hasN [2, 3, 4, 5, 6] n
abbrev kBX : Nat → Bool := fun n => hasN [2, 3] n
theorem bk_round {S S6 S7 S' : qzw} (h1 : code (ent Tryz.prog tBk nolv 64 1 20) Tryz.prog {} 1 64 1 loK1 S (endK 1 64 kB kBX) = some (.normal, S)) (h6 : code (ent Tryz.prog tBk nolv 64 1 20) Tryz.prog {} 1 64 1 loK6 S (endK 1 64 kB6 kBX) = some (.normal, S6))
    (h7 : code (ent Tryz.prog tBk nolv 64 1 20) Tryz.prog {} 1 64 1 loK7 S6 (endK 1 64 kB kBX) = some (.normal, S7)) (h5 : code (ent Tryz.prog tBk nolv 64 1 20) Tryz.prog {} 1 64 1 loK5 S7 (endK 1 64 kB kBX) = some (.normal, S')) : Tri Tryz.prog loopK S.toA .normal S'.toA 1 := by
  rw [loK_shape]
  exact tri_seq (bkS h1) (tri_seq (tri_blockN (tri_seq (bkS h6) (bkS h7))) (bkS h5))
theorem bk_end {S S' : qzw} (h1 : code (ent Tryz.prog tBk nolv 64 1 20) Tryz.prog {} 1 64 1 loK1 S (endK 1 64 kB kBX) = some (.exit 0, S')) : Tri Tryz.prog loopK S.toA (.exit 0) S'.toA 1 := by
  rw [loK_shape]
  exact tri_seqX (fun e => by cases e) (bkS h1)
def bkL (A : List (List CV)) (s : Int) : Nat → List (List CV)
  | 0 => []
  | j + 1 => qyw (c0 (Sx.rowAt A j) == s) (bkL A s j ++ [mkC (c1 (Sx.rowAt A j)) (c2 (Sx.rowAt A j))]) (bkL A s j)
theorem bkL_le (A : List (List CV)) (s : Int) : ∀ j, (bkL A s j).length ≤ j
  | 0 => Nat.le_refl _
  | j + 1 => by
    have := bkL_le A s j
    rw [bkL]
    cases c0 (Sx.rowAt A j) == s <;> simp only [qyw, List.length_append, List.length_singleton] <;> omega
section
variable (R A : List (List CV)) (m : Nat)
def sBof (i : Int) : List (List CV) → List (List CV) → qzw
  | [], [] => sB R A m i .qzz .qzz []
  | X, [] => sB R A m i (.vec 5 X.length) .qzz [some (vC X)]
  | [], Y => sB R A m i .qzz (.vec 5 Y.length) [some (vC Y)]
  | X, Y => sB R A m i (.vec 5 X.length) (.vec 6 Y.length) [some (vC X), some (vC Y)]
def sBXof : List (List CV) → List (List CV) → qzw
  | [], [] => sBX R .qzz .qzz []
  | X, [] => sBX R (.vec 4 X.length) .qzz [some (vC X)]
  | [], Y => sBX R .qzz (.vec 4 Y.length) [some (vC Y)]
  | X, Y => sBX R (.vec 4 X.length) (.vec 5 Y.length) [some (vC X), some (vC Y)]
end
section
variable {R A : List (List CV)} {m : Nat}
theorem sB_app0 (i : Int) (X Y : List (List CV)) (r : List CV) : sBof R A m i (X ++ [r]) Y = match Y with
  | [] => sB R A m i (.vec 5 (X.length + 1)) .qzz [some (vC (X ++ [r]))]
  | Y => sB R A m i (.vec 5 (X.length + 1)) (.vec 6 Y.length) [some (vC (X ++ [r])), some (vC Y)] := by
  have : (X ++ [r]).length = X.length + 1 := by simp
  rw [← this]
  cases X <;> cases Y <;> rfl
theorem sB_app1 (i : Int) (X Y : List (List CV)) (r : List CV) : sBof R A m i X (Y ++ [r]) = match X with
  | [] => sB R A m i .qzz (.vec 5 (Y.length + 1)) [some (vC (Y ++ [r]))]
  | X => sB R A m i (.vec 5 X.length) (.vec 6 (Y.length + 1)) [some (vC X), some (vC (Y ++ [r]))] := by
  have : (Y ++ [r]).length = Y.length + 1 := by simp
  rw [← this]
  cases X <;> cases Y <;> rfl
theorem ckC_ok {X : List (List CV)} {i : Nat} (hk : ∀ b ∈ ckB A m (i : Int), b = true) (hX : X.length ≤ 12) : ∀ b ∈ ckC A m (i : Int) X X.length, b = true := by
  intro b hb
  unfold ckC at hb
  rw [List.mem_append, List.mem_append, List.mem_singleton] at hb
  rcases hb with (hb | hb) | rfl
  · exact hk b hb
  · exact hk b hb
  · rw [decide_eq_true (show (vC X).len = X.length * 3 from rfl)]; unfold roomB; exact decide_eq_true ⟨by omega, by omega⟩
theorem roundK (hA : ∀ i, i < m → c0 (Sx.rowAt A i) = 0 ∨ c0 (Sx.rowAt A i) = 1) (hm : m = A.length) (hs : m ≤ 12) {j : Nat} (hj : j < m) :
    Tri Tryz.prog loopK (sBof R A m (j : Int) (bkL A 0 j) (bkL A 1 j)).toA .normal (sBof R A m ((j + 1 : Nat) : Int) (bkL A 0 (j + 1)) (bkL A 1 (j + 1))).toA 1 := by
  have hk : ∀ b ∈ ckB A m (j : Int), b = true := all2 (ixN_nat hj) (inR_nat (by omega))
  have hk2 : ∀ b ∈ ckB A m (j : Int) ++ ckB A m (j : Int), b = true := fun b hb => (List.mem_append.1 hb).elim (hk b) (hk b)
  have hlt : decide ((j : Int) < (m : Int)) = true := decide_eq_true (by omega)
  have hu : up1 (j : Int) = ((j + 1 : Nat) : Int) := up1_nat (by omega)
  have l0 := bkL_le A 0 j
  have l1 := bkL_le A 1 j
  have hc : cellR A (j : Int) = mkC (c1 (Sx.rowAt A j)) (c2 (Sx.rowAt A j)) := by unfold cellR; rw [Int.toNat_natCast]
  rw [← hu]
  rcases hA j hj with e | e
  · have e0 : bkL A 0 (j + 1) = bkL A 0 j ++ [cellR A (j : Int)] := by rw [bkL, e, hc]; rfl
    have e1 : bkL A 1 (j + 1) = bkL A 1 j := by rw [bkL, e]; rfl
    rw [e0, e1, sB_app0]
    generalize bkL A 0 j = X at *
    generalize bkL A 1 j = Y at *
    have ec : c0 (Sx.rowAt A ((j : Int)).toNat) = 0 := by rw [Int.toNat_natCast]; exact e
    cases X with
    | nil => cases Y with
      | nil => exact bk_round ((bk1 ..).trans (bcT hlt)) ((bk6 ..).trans ((qzy hk).trans (by rw [ec]))) ((bk70 ..).trans (qzy hk2)) ((bk5x ..).trans rfl)
      | cons y Y => exact bk_round ((bk1y ..).trans (bcT hlt)) ((bk6y ..).trans ((qzy hk).trans (by rw [ec]))) ((bk7y0 ..).trans (qzy hk2)) ((bk5b ..).trans rfl)
    | cons x X => cases Y with
      | nil => exact bk_round ((bk1x ..).trans (bcT hlt)) ((bk6x ..).trans ((qzy hk).trans (by rw [ec]))) ((bk7x0 ..).trans (qzy (ckC_ok hk (by omega)))) ((bk5x ..).trans rfl)
      | cons y Y => exact bk_round ((bk1b ..).trans (bcT hlt)) ((bk6b ..).trans ((qzy hk).trans (by rw [ec]))) ((bk7b0 ..).trans (qzy (ckC_ok hk (by omega)))) ((bk5b ..).trans rfl)
  · have e0 : bkL A 0 (j + 1) = bkL A 0 j := by rw [bkL, e]; rfl
    have e1 : bkL A 1 (j + 1) = bkL A 1 j ++ [cellR A (j : Int)] := by rw [bkL, e, hc]; rfl
    rw [e0, e1, sB_app1]
    generalize bkL A 0 j = X at *
    generalize bkL A 1 j = Y at *
    have ec : c0 (Sx.rowAt A ((j : Int)).toNat) = 1 := by rw [Int.toNat_natCast]; exact e
    cases X with
    | nil => cases Y with
      | nil => exact bk_round ((bk1 ..).trans (bcT hlt)) ((bk6 ..).trans ((qzy hk).trans (by rw [ec]))) ((bk71 ..).trans (qzy hk2)) ((bk5y ..).trans rfl)
      | cons y Y => exact bk_round ((bk1y ..).trans (bcT hlt)) ((bk6y ..).trans ((qzy hk).trans (by rw [ec]))) ((bk7y1 ..).trans (qzy (ckC_ok hk (by omega)))) ((bk5y ..).trans rfl)
    | cons x X => cases Y with
      | nil => exact bk_round ((bk1x ..).trans (bcT hlt)) ((bk6x ..).trans ((qzy hk).trans (by rw [ec]))) ((bk7x1 ..).trans (qzy hk2)) ((bk5b ..).trans rfl)
      | cons y Y => exact bk_round ((bk1b ..).trans (bcT hlt)) ((bk6b ..).trans ((qzy hk).trans (by rw [ec]))) ((bk7b1 ..).trans (qzy (ckC_ok hk (by omega)))) ((bk5b ..).trans rfl)
theorem lastK : Tri Tryz.prog loopK (sBof R A m (m : Int) (bkL A 0 m) (bkL A 1 m)).toA (.exit 0) (sBXof R (bkL A 0 m) (bkL A 1 m)).toA 1 := by
  have hlt : decide ((m : Int) < (m : Int)) = false := decide_eq_false (by omega)
  generalize bkL A 0 m = X
  generalize bkL A 1 m = Y
  cases X with
  | nil => cases Y with
    | nil => exact bk_end ((bk1 ..).trans (bcF hlt))
    | cons y Y => exact bk_end ((bk1y ..).trans (bcF hlt))
  | cons x X => cases Y with
    | nil => exact bk_end ((bk1x ..).trans (bcF hlt))
    | cons y Y => exact bk_end ((bk1b ..).trans (bcF hlt))
theorem loopKK (hA : ∀ i, i < m → c0 (Sx.rowAt A i) = 0 ∨ c0 (Sx.rowAt A i) = 1) (hm : m = A.length) (hs : m ≤ 12) :
    Tri Tryz.prog (.loop loopK) (sB R A m 0 .qzz .qzz []).toA (.exit 0) (sBXof R (bkL A 0 m) (bkL A 1 m)).toA 1 :=
  tri_up (body := loopK) (fun j => (sBof R A m (j : Int) (bkL A 0 j) (bkL A 1 j)).toA) (fun e => by cases e) m (fun k hk => roundK hA hm hs hk) lastK 0 (Nat.zero_le _)
end
end Go.Proofs.YtphhepnldndbhaaGreatDoor
namespace Go.Proofs.YtphhepnldndbhaaGreatDoor
open Go Sx
section
variable (R A X Y : List (List CV)) (a m p q : Nat) (bx by' c : Bool)
def sBz : qzw := ⟨none :: none :: some (.ptr 1 0) :: some (.ptr 2 0) :: some .qzz :: some (.int .i64 0) :: nn 43, some (fA R) :: some (oB4 .qzz) :: some (oB4 (.slice 3 0 2 2)) :: some (oSh .qzz .qzz) :: nn 64⟩
theorem rBz : code (ent Tryz.prog tBk nolv 64 1 20) Tryz.prog {} 1 64 1 loopK (sBz R) (endK 1 64 kB kBX) = some (.exit 0, sBX R .qzz .qzz []) := by kernel_rfl
def outK : LAns := .chk c (.br bx (.br by' (.out (.exit 0) (sBX R .qzz .qzz [])) (.out (.exit 0) (sBX R .qzz (.vec 4 q) [some (vC Y)]))) (.br by' (.out (.exit 0) (sBX R (.vec 4 p) .qzz [some (vC X)])) (.out (.exit 0) (sBX R (.vec 4 p) (.vec 5 q) [some (vC X), some (vC Y)]))))
noncomputable def eK (x : LAns) : Nat → qzw → LAns := fun K st => match st.slots with
  | _ :: _ :: _ :: _ :: some .qzz :: _ => eAt 1 (sBz R) (.out (.exit 0) (sBX R .qzz .qzz [])) K st
  | _ => eAt 1 (sB R A m 0 .qzz .qzz []) x K st
noncomputable def lvK (x : LAns) : FuncId → Lv := lvOf 11 (fun _ => some [2, 3, 4, 5]) (oneL 4 (eK R A m x))
theorem lvK_ok {R A : List (List CV)} {m : Nat} {x : LAns} (hx : LAnsOK Tryz.prog loopK 1 (sB R A m 0 .qzz .qzz []) x) : LvOK Tryz.prog (lvK R A m x) := lvOne_ok (x := loopK) Tryz.func11 (by kernel_rfl) fun K t => by
  unfold eK
  split
  · refine eAt_ok (x := loopK) ?_ K t
    have key := loop_rounds (qzv (T := tBk) tBk_ok host qyz (NF := 64) (m := 1) 20) (NF := 64) (m := 1) (x := loopK) (K := 1) qyt kB kBX (ι := Unit) (fun _ => sBz R) (fun _ => 0) (fun _ => (.exit 0, sBX R .qzz .qzz [])) (fun _ => .inr (rBz R)) (fun _ => fun e => by cases e) ()
    exact key
  · exact eAt_ok hx K t
abbrev bkV : AV := .agg [.slice 1 0 2 2, .qzz, .qzz, .qzz]
def bkM : List PObj := [fA R, oSh .qzz .qzz]
def bkMx : List PObj := [fA R, oSh (.vec 2 p) .qzz, vC X]
def bkMy : List PObj := [fA R, oSh .qzz (.vec 2 q), vC Y]
def bkMb : List PObj := [fA R, oSh (.vec 2 p) (.vec 3 q), vC X, vC Y]
open Classical in
theorem bk_comes : Comes tBk (lvK R (atsL R (m12 a)) (atsL R (m12 a)).length (outK R X Y p q bx by' c)) 11 [.dsl 0 a] [fA R]
  (.chk (decide (okA a R)) (.br (Nat.beq a 0) (.chk (eqSt (sBz R) (sBz R)) (.ret bkV (bkM R))) (.chk (eqSt (sB R (atsL R (m12 a)) (atsL R (m12 a)).length 0 .qzz .qzz []) (sB R (atsL R (m12 a)) (atsL R (m12 a)).length 0 .qzz .qzz [])) (.chk c (.br bx (.br by' (.ret bkV (bkM R)) (.ret bkV (bkMy R Y q))) (.br by' (.ret bkV (bkMx R X p)) (.ret bkV (bkMb R X Y p q)))))))) := by unfold Comes; kernel_rfl
end
theorem pickS_in {c n : Int} (h : 0 < n) : 0 ≤ qyv c n ∧ qyv c n < n := by
  unfold qyv
  split
  · exact ⟨Int.tmod_nonneg n (by omega), Int.tmod_lt_of_pos _ h⟩
  · exact ⟨Int.tmod_nonneg n (by omega), Int.tmod_lt_of_pos _ h⟩
theorem insA_mem {O : List (List CV)} {p : List CV} {x : List CV} (h : x ∈ insA O p) : x ∈ O ∨ x = p := by
  unfold insA at h
  cases hb : scB O p O.length with
  | true => rw [hb] at h; exact .inl h
  | false =>
    rw [hb] at h
    simp only [qyw, List.mem_append, List.mem_singleton] at h
    rcases h with (h | h) | h
    · exact .inl (List.mem_of_mem_take h)
    · exact .inr h
    · exact .inl (List.mem_of_mem_drop h)
theorem atsL_mem {R : List (List CV)} {x : List CV} : ∀ k, x ∈ atsL R k → ∃ i, i < k ∧ x = plA (Sx.rowAt R i)
  | 0, h => nomatch h
  | k + 1, h => by
    rw [atsL] at h
    rcases insA_mem h with h | h
    · obtain ⟨i, hi, e⟩ := atsL_mem k h
      exact ⟨i, by omega, e⟩
    · exact ⟨k, by omega, h⟩
theorem plA_in (x : List CV) : 0 ≤ c0 (plA x) ∧ c0 (plA x) < 2 ∧ 0 ≤ c1 (plA x) ∧ c1 (plA x) < 200 ∧ 0 ≤ c2 (plA x) ∧ c2 (plA x) < 52 := by
  obtain ⟨a1, a2⟩ := pickS_in (c := c0 x) (n := 2) (by decide)
  obtain ⟨b1, b2⟩ := pickS_in (c := c1 x) (n := 8) (by decide)
  obtain ⟨d1, d2⟩ := pickS_in (c := c2 x) (n := 6) (by decide)
  unfold plA
  cases qyv (c1 x) 17 == 16 with
  | true =>
    have e1 : farR x = 199 - Int.tmod (qyv (c1 x) 8) 3 := by
      unfold farR w64; rw [i64_in] <;> have := Int.tmod_lt_of_pos (qyv (c1 x) 8) (b := 3) (by decide) <;> have := Int.tmod_nonneg 3 b1 <;> omega
    have e2 : farC x = 51 - Int.tmod (qyv (c2 x) 6) 3 := by
      unfold farC w64; rw [i64_in] <;> have := Int.tmod_lt_of_pos (qyv (c2 x) 6) (b := 3) (by decide) <;> have := Int.tmod_nonneg 3 d1 <;> omega
    have := Int.tmod_lt_of_pos (qyv (c1 x) 8) (b := 3) (by decide)
    have := Int.tmod_nonneg 3 b1
    have := Int.tmod_lt_of_pos (qyv (c2 x) 6) (b := 3) (by decide)
    have := Int.tmod_nonneg 3 d1
    show 0 ≤ qyv (c0 x) 2 ∧ qyv (c0 x) 2 < 2 ∧ 0 ≤ farR x ∧ farR x < 200 ∧ 0 ≤ farC x ∧ farC x < 52
    omega
  | false =>
    show 0 ≤ qyv (c0 x) 2 ∧ qyv (c0 x) 2 < 2 ∧ 0 ≤ qyv (c1 x) 8 ∧ qyv (c1 x) 8 < 200 ∧ 0 ≤ qyv (c2 x) 6 ∧ qyv (c2 x) 6 < 52
    omega
theorem atsL_in (R : List (List CV)) (k : Nat) {i : Nat} (hi : i < (atsL R k).length) : ∃ x, Sx.rowAt (atsL R k) i = plA x := by
  have : Sx.rowAt (atsL R k) i ∈ atsL R k := by
    have e : Sx.rowAt (atsL R k) i = (atsL R k)[i] := by unfold Sx.rowAt; simp [hi]
    rw [e]; exact List.getElem_mem hi
  obtain ⟨n, _, e⟩ := atsL_mem k this
  exact ⟨_, e⟩
theorem ats01 (R : List (List CV)) (k : Nat) (i : Nat) (hi : i < (atsL R k).length) : c0 (Sx.rowAt (atsL R k) i) = 0 ∨ c0 (Sx.rowAt (atsL R k) i) = 1 := by
  obtain ⟨x, e⟩ := atsL_in R k hi
  have := plA_in x
  rw [e]; omega
def bkX (R : List (List CV)) (a : Nat) (s : Int) : List (List CV) := bkL (atsL R (m12 a)) s (atsL R (m12 a)).length
open Classical in
noncomputable def eBk : Ent := fun args pre => match args, pre with
  | [.dsl j a], [.raw (.flatR f sh R)] => .chk (Nat.beq j 0 && shEq sh shA && !f) (.chk (decide (okA a R)) (.br (isNil (bkX R a 0)) (.br (isNil (bkX R a 1)) (.ret bkV [.raw (.flatR f sh R), oSh .qzz .qzz]) (.ret bkV [.raw (.flatR f sh R), oSh .qzz (.vec 2 (bkX R a 1).length), vC (bkX R a 1)]))
      (.br (isNil (bkX R a 1)) (.ret bkV [.raw (.flatR f sh R), oSh (.vec 2 (bkX R a 0).length) .qzz, vC (bkX R a 0)]) (.ret bkV [.raw (.flatR f sh R), oSh (.vec 2 (bkX R a 0).length) (.vec 3 (bkX R a 1).length), vC (bkX R a 0), vC (bkX R a 1)]))))
  | _, _ => .fail
theorem bk_lv {R : List (List CV)} {a : Nat} : LvOK Tryz.prog (lvK R (atsL R (m12 a)) (atsL R (m12 a)).length (outK R (bkX R a 0) (bkX R a 1) (bkX R a 0).length (bkX R a 1).length (isNil (bkX R a 0)) (isNil (bkX R a 1)) true)) := lvK_ok (by
  have hl := atsL_le R (m12 a)
  have key := loopKK (R := R) (A := atsL R (m12 a)) (m := (atsL R (m12 a)).length) (ats01 R (m12 a)) rfl (by have : m12 a ≤ 12 := Nat.min_le_right ..; omega)
  have e0 : bkL (atsL R (m12 a)) 0 (atsL R (m12 a)).length = bkX R a 0 := rfl
  have e1 : bkL (atsL R (m12 a)) 1 (atsL R (m12 a)).length = bkX R a 1 := rfl
  rw [e0, e1] at key
  refine ⟨fun _ => ⟨fun h => ⟨fun h' => ?_, fun h' => ?_⟩, fun h => ⟨fun h' => ?_, fun h' => ?_⟩⟩, fun _ => trivial⟩ <;> cases hx : bkX R a 0 <;> cases hy : bkX R a 1 <;> rw [hx, hy] at key <;> rw [hx] at h <;> rw [hy] at h' <;> first | exact key | (cases h; done) | (cases h'; done))
open Classical in
theorem eBk_ok : EntOK Tryz.prog 11 eBk := fun args pre => by
  unfold eBk
  split
  · rename_i j a f sh R
    refine ⟨fun g0 => ⟨fun g1 => ?_, fun _ => trivial⟩, fun _ => trivial⟩
    simp only [Bool.and_eq_true, beqT, Bool.not_eq_true'] at g0
    obtain ⟨⟨rfl, g⟩, rfl⟩ := g0
    obtain rfl := shEq_of g
    have key := bk_comes R (bkX R a 0) (bkX R a 1) a (bkX R a 0).length (bkX R a 1).length (isNil (bkX R a 0)) (isNil (bkX R a 1)) true
    have k0 : ∀ hx : isNil (bkX R a 0) = false, Nat.beq a 0 = false := fun hx => by
      rw [Bool.eq_false_iff]; intro e
      obtain rfl := beqT.1 e
      cases hx
    have k1 : ∀ hx : isNil (bkX R a 1) = false, Nat.beq a 0 = false := fun hx => by
      rw [Bool.eq_false_iff]; intro e
      obtain rfl := beqT.1 e
      cases hx
    refine ⟨fun h => ⟨fun h' => ?_, fun h' => ?_⟩, fun h => ⟨fun h' => ?_, fun h' => ?_⟩⟩
    · refine qyx (pre := [fA R]) (post := bkM R) tBk_ok host (key.trans ?_) bk_lv
      rw [chkT g1]
      cases Nat.beq a 0 with
      | true => rw [brT rfl, chkT (qzt _)]; rfl
      | false => rw [brF rfl, chkT (qzt _), chkT rfl, brT h, brT h']; rfl
    · refine qyx (pre := [fA R]) (post := bkMy R _ _) tBk_ok host (key.trans ?_) bk_lv
      rw [chkT g1, brF (k1 h'), chkT (qzt _), chkT rfl, brT h, brF h']; rfl
    · refine qyx (pre := [fA R]) (post := bkMx R _ _) tBk_ok host (key.trans ?_) bk_lv
      rw [chkT g1, brF (k0 h), chkT (qzt _), chkT rfl, brF h, brT h']; rfl
    · refine qyx (pre := [fA R]) (post := bkMb R _ _ _ _) tBk_ok host (key.trans ?_) bk_lv
      rw [chkT g1, brF (k0 h), chkT (qzt _), chkT rfl, brF h, brF h']; rfl
  · trivial
end Go.Proofs.YtphhepnldndbhaaGreatDoor
namespace Go.Proofs.YtphhepnldndbhaaGreatDoor
open Go Sx Go.Shelf
def layRen : Ren := ⟨fun | 196 => 153 | 259 => 188 | n => n, fun | 9 => 9 | 4 => 4 | 3 => 3 | 5 => 5 | 12 => 12 | 119 => 230 | 0 => 0 | 46 => 167 | 139 => 233 | 138 => 232 | 53 => 267 | n => n, fun | 3 => 1 | 4 => 2 | n => n⟩
theorem layValid : Lays.n196 Tryz.prog layRen := {
  mixed := by kernel_rfl,
  f196 := Tryz.func153.trans (congrArg some (by kernel_rfl)),
  f259 := Tryz.func188.trans (congrArg some (by kernel_rfl)),
  t0 := Tryz.underlying0,
  a0 := Tryz.isAgg0,
  z0 := Tryz.sizeOf0,
  v0 := Tryz.zeroValue0,
  t3 := Tryz.underlying3,
  a3 := Tryz.isAgg3,
  z3 := Tryz.sizeOf3,
  v3 := Tryz.zeroValue3,
  t4 := Tryz.underlying4,
  a4 := Tryz.isAgg4,
  z4 := Tryz.sizeOf4,
  v4 := Tryz.zeroValue4,
  t5 := Tryz.underlying5,
  a5 := Tryz.isAgg5,
  z5 := Tryz.sizeOf5,
  v5 := Tryz.zeroValue5,
  t9 := Tryz.underlying9,
  a9 := Tryz.isAgg9,
  z9 := Tryz.sizeOf9,
  v9 := Tryz.zeroValue9,
  t12 := Tryz.underlying12,
  a12 := Tryz.isAgg12,
  z12 := Tryz.sizeOf12,
  v12 := Tryz.zeroValue12,
  t46 := Tryz.underlying167,
  a46 := Tryz.isAgg167,
  z46 := Tryz.sizeOf167,
  v46 := Tryz.zeroValue167,
  t53 := Tryz.underlying267,
  a53 := Tryz.isAgg267,
  z53 := Tryz.sizeOf267,
  v53 := Tryz.zeroValue267,
  t119 := Tryz.underlying230,
  a119 := Tryz.isAgg230,
  z119 := Tryz.sizeOf230,
  t138 := Tryz.underlying232,
  a138 := Tryz.isAgg232,
  z138 := Tryz.sizeOf232,
  v138 := Tryz.zeroValue232,
  t139 := Tryz.underlying233,
  a139 := Tryz.isAgg233,
  z139 := Tryz.sizeOf233,
  v139 := Tryz.zeroValue233,
  g3 := by kernel_rfl,
  g4 := by kernel_rfl }
theorem layExtra : U8Extra Tryz.prog layRen := { n3 := by kernel_rfl, n4 := by kernel_rfl, y3 := by kernel_rfl, y4 := by kernel_rfl, c5 := by kernel_rfl, c119 := by kernel_rfl, c138 := by kernel_rfl }
theorem tabs_of_glob {w : World} {M : Nat → Prop} (h : GlobOK w M) : Lib.Utf8Tabs 1 2 w := by
  obtain ⟨_, _, h0⟩ := h.tab (g := 1) rfl
  obtain ⟨_, _, h1⟩ := h.tab (g := 2) rfl
  refine ⟨fun c hc => h0 c _ (by simp [gvals, List.getElem?_range hc]), fun i hi => ⟨h1 (2 * i) _ ?_, h1 (2 * i + 1) _ ?_⟩⟩
  · simp only [gvals, List.getElem?_map, List.getElem?_range (show 2 * i < 32 by omega), Option.map_some]
    simp
  · simp only [gvals, List.getElem?_map, List.getElem?_range (show 2 * i + 1 < 32 by omega), Option.map_some]
    rw [if_neg (by omega), show (2 * i + 1) / 2 = i by omega]
theorem tabs_part {w : World} (h : Lib.Utf8Tabs 1 2 w) : ∀ g l, gtab g = some l → g < w.heap.size ∧ ¬ (fun _ : Nat => False) g ∧ ∀ (i : Nat) x, (gvals l)[i]? = some x → w.cell? ⟨g, i, none⟩ = some x := by
  intro g l hg
  have big : ∀ {b i : Nat} {x : Value}, w.cell? ⟨b, i, none⟩ = some x → b < w.heap.size := fun {b i x} e => by
    rcases Nat.lt_or_ge b w.heap.size with h' | h'
    · exact h'
    · simp [World.cell?, Array.getElem?_eq_none h'] at e
  unfold gtab at hg
  split at hg
  · cases hg
    refine ⟨big (h.1 0 (by omega)), fun e => e, fun i x hx => ?_⟩
    have hi : i < 256 := by have := (List.getElem?_eq_some_iff.1 hx).1; simpa [gvals] using this
    simp only [gvals, List.getElem?_map, List.getElem?_range hi, Option.map_some, Option.some.injEq] at hx
    rw [← hx]; exact h.1 i hi
  · cases hg
    refine ⟨big (h.2 0 (by omega)).1, fun e => e, fun i x hx => ?_⟩
    have hi : i < 32 := by have := (List.getElem?_eq_some_iff.1 hx).1; simpa [gvals] using this
    simp only [gvals, List.getElem?_map, List.getElem?_range hi, Option.map_some, Option.some.injEq] at hx
    rw [← hx]
    by_cases c : i % 2 = 0
    · rw [if_pos c]
      have := (h.2 (i / 2) (by omega)).1
      rwa [show 2 * (i / 2) = i by omega] at this
    · rw [if_neg c]
      have := (h.2 (i / 2) (by omega)).2
      rwa [show 2 * (i / 2) + 1 = i by omega] at this
  · cases hg
theorem strs_part {w : World} (hf : ∀ (i : Nat) x, (gvalsS ((gstr 0).getD []))[i]? = some x → w.cell? ⟨0, i, none⟩ = some x) : ∀ g l, gtab g = none → gstr g = some l → g < w.heap.size ∧ ∀ (i : Nat) x, (gvalsS l)[i]? = some x → w.cell? ⟨g, i, none⟩ = some x := by
  intro g l _ hg
  unfold gstr at hg
  split at hg
  · cases hg
    refine ⟨?_, hf⟩
    have e := hf 0 _ rfl
    rcases Nat.lt_or_ge 0 w.heap.size with h' | h'
    · exact h'
    · simp [World.cell?, Array.getElem?_eq_none h'] at e
  · cases hg
theorem glob_of_tabs {w : World} (h : Lib.Utf8Tabs 1 2 w)
    (hf : ∀ (i : Nat) x, (gvalsS ((gstr 0).getD []))[i]? = some x → w.cell? ⟨0, i, none⟩ = some x) (hm : ∃ n, w.cell? ⟨4, 0, none⟩ = some (.int .i64 n)) : GlobOK w fun _ => False := by
  intro g hg
  have big : ∀ {b : Nat} {x : Value}, w.cell? ⟨b, 0, none⟩ = some x → b < w.heap.size := fun {b x} e => by
    rcases Nat.lt_or_ge b w.heap.size with h' | h'
    · exact h'
    · simp [World.cell?, Array.getElem?_eq_none h'] at e
  have her : gerr g = true → g < w.heap.size ∧ ∃ t v, w.cell? ⟨g, 0, none⟩ = some (.iface t v) := fun he => by cases he
  have hin : gint g = true → g < w.heap.size ∧ ∃ n, w.cell? ⟨g, 0, none⟩ = some (.int .i64 n) := fun he => by
    have : g = 4 := by
      unfold gint at he
      split at he
      · rfl
      · cases he
    subst this
    obtain ⟨n, e⟩ := hm; exact ⟨big e, n, e⟩
  have hal : ∀ p, gAll g = some p → g < w.heap.size ∧ ∀ (i : Nat) x, p.2[i]? = some x → w.cell? ⟨g, i, none⟩ = some x := fun p hp => by
    unfold gAll at hp
    split at hp
    · rename_i l hl; cases hp; have := tabs_part h g l hl; exact ⟨this.1, this.2.2⟩
    · rename_i hn
      split at hp
      · rename_i l hl; cases hp; exact strs_part hf g l hn hl
      · cases hp
  refine ⟨?_, fun e => e, fun p hp => (hal p hp).2, fun he => (her he).2, fun he => (hin he).2⟩
  cases hgt : gAll g with
  | some p => exact (hal p hgt).1
  | none =>
    unfold gAny at hg
    rw [hgt] at hg
    cases he : gerr g with
    | true => exact (her he).1
    | false => rw [he] at hg; exact (hin (by simpa using hg)).1
theorem cells_of_strs {H : Type} {enc : TypeId × Value → H} {P : Program} {w : World} {base : Nat} {sp : Nat → Bool} {held : Bool} {fuel : Nat} {t e : TypeId} {n : Nat} {cs : List Value} {zs : List (List UInt8)} {p : List MemPlace}
    (ht : P.underlying t = some (.array n e)) (he : P.underlying e = some .string) (hce : P.cellsOf e = 1) (hct : P.cellsOf t = n)
    (h : DataW.trod enc P w base sp held fuel t cs = some (.agg (zs.map fun z => .lit (.string z)), p)) : cs = gvalsS zs := by
  cases fuel with
  | zero => simp [DataW.trod] at h
  | succ fuel =>
    simp only [DataW.trod, ht, hce, hct, Nat.mul_one] at h
    split at h
    · rename_i hl
      obtain ⟨xs, hm, hx⟩ := Option.map_eq_some_iff.1 h
      have hxs : xs.map (·.1) = zs.map fun z => (DataW.lit (.string z) : DataW H) := by
        have := congrArg Prod.fst hx
        simpa using this
      have hxl : xs.length = n := by simpa using Lib.mapM_length hm
      have hzl : zs.length = n := by
        have := congrArg List.length hxs
        simp at this
        omega
      apply List.ext_getElem?
      intro i
      by_cases hi : i < n
      · obtain ⟨b, hb, hf⟩ := Lib.mapM_at hm i i (by simp [hi])
        obtain ⟨z, hc, rfl, _⟩ := DataW.trod_string he hf
        have h1 : cs[i]? = some (.string z) := by
          have := congrArg (·[0]?) hc
          simpa [List.getElem?_take, List.getElem?_drop] using this
        have h2 : (xs.map (·.1))[i]? = some (DataW.lit (.string z.data.toList) : DataW H) := by simp [hb]
        rw [hxs] at h2
        simp only [List.getElem?_map, Option.map_eq_some_iff, DataW.lit.injEq, Lit.string.injEq] at h2
        obtain ⟨z', hz', rfl⟩ := h2
        simp [h1, gvalsS, hz']
      · rw [List.getElem?_eq_none (by omega), List.getElem?_eq_none (by simp [gvalsS]; omega)]
    · cases h
theorem faults_of_laid {rest : List (String × DataW Unit)} {W : World} (h : laidMet Tryz.prog (("tabula/val.faults", Rows.laid_tabula_val_faults) :: rest) W) : ∀ (i : Nat) x, (gvalsS ((gstr 0).getD []))[i]? = some x → W.cell? ⟨0, i, none⟩ = some x := by
  have hg : Tryz.prog.globalNamed "tabula/val.faults" = some 0 := by kernel_rfl
  have hty : (Tryz.prog.globals[0]?).map (·.type) = some 164 := by kernel_rfl
  obtain ⟨ps, ⟨g', t', cs, fuel, p, q, hg', ht', hvar, hd, _, _⟩, _⟩ := h
  obtain rfl := Option.some.inj (hg.symm.trans hg')
  obtain rfl := Option.some.inj (hty.symm.trans ht')
  have he : (Rows.laid_tabula_val_faults : DataW Unit) = .agg (((gstr 0).getD []).map fun z => .lit (.string z)) := by kernel_rfl
  rw [he] at hd
  have hc := cells_of_strs Tryz.underlying164 Tryz.underlying9 (by kernel_rfl) (by kernel_rfl) hd
  intro i x hx
  have := World.var?_cell hg hvar i
  rw [this, ← hx, ← hc]
  simp
theorem maxlen_of_shape {W : World} (h : W.ShapedOpen Tryz.prog) : ∃ n, W.cell? ⟨4, 0, none⟩ = some (.int .i64 n) :=
  cell_of_shapedOpen_int (t := 3) (zero := #[.int .i64 0]) h (of_decide_eq_true (by kernel_rfl)) (by kernel_rfl) rfl (by kernel_rfl) (by kernel_rfl) Tryz.underlying3
theorem glob_of_laid {W : World} (h : laidMetH Tryz.prog Rows.spillMoreRow.laid W) (hs : W.ShapedOpen Tryz.prog) : GlobOK W fun _ => False := by
  rw [MakeChecks.laidMetH_plain _ _ _ (by kernel_rfl)] at h
  have hall := h
  obtain ⟨ps, hv, _⟩ := h
  have h3 := Lib.LaidVars_reads hv "unicode/utf8.first" Pinned.utf8First (by simp [Rows.spillMoreRow, Rows.laid_unicode_utf8_first])
  have h4 := Lib.LaidVars_reads hv "unicode/utf8.acceptRanges" Rows.laid_unicode_utf8_acceptRanges (by simp [Rows.spillMoreRow])
  have e3 : (Pinned.utf8First : DataW Unit) = Lib.firstData := by kernel_rfl
  rw [e3] at h3
  have e4 : (Rows.laid_unicode_utf8_acceptRanges : DataW Unit) = Lib.acceptData := by kernel_rfl
  rw [e4] at h4
  exact glob_of_tabs (utf8Tabs_of_readsT (U8Types.of196 layValid) layExtra h3 h4) (faults_of_laid (rest := Rows.spillMoreRow.laid.drop 8) hall.tail.tail.tail.tail.tail.tail.tail) (maxlen_of_shape hs)
def eValid : Ent := fun args pre => match args, pre with
  | [.str l], [] => .chk (decide (l.length ≤ 9223372036854775807)) (.ret (.bool (Lib.validD l)) [])
  | _, _ => .fail
theorem valid_ok : EntOK Tryz.prog 153 eValid := fun args pre => by
  unfold eValid
  split
  · rename_i l
    refine ⟨fun hb => ?_, fun _ => trivial⟩
    have hl : l.length ≤ 9223372036854775807 := by simpa using hb
    intro w E vs hvs hp
    obtain ⟨x, zs, hx, hz, rfl⟩ := qxz.1 hvs
    simp only [denL, Option.some.injEq] at hz
    subst hz
    have hx : x = .string ⟨l.toArray⟩ := by simpa [den] using hx.symm
    subst hx
    have hc := Any.utf8_ValidString layValid ⟨l.toArray⟩ w (by simpa [ByteArray.size] using hl) (tabs_of_glob hp.glob)
    refine .inl ⟨153, _, Tryz.call153 _ _, hc.mono ?_⟩
    rintro e w' ⟨rfl, hb'⟩
    refine ⟨E, _, rfl, rfl, ⟨.refl _, hp.fresh, fun n o h => by simp at h, fun n b c o _ h => by simp at h, fun n b c hn he => (by rw [hp.fresh n hn] at he; cases he), fun k hk _ => hb'.block k hk, fun n m o o' b c b' c' _ _ h => by simp at h, hb'.size, hb'.os, hb'.tape, hb'.output⟩⟩
  · trivial
end Go.Proofs.YtphhepnldndbhaaGreatDoor
namespace Go.Proofs.YtphhepnldndbhaaGreatDoor.Sx
open Go
def nonesB : Nat → List (Option PObj) → Bool
  | 0, [] => true
  | n + 1, none :: r => nonesB n r
  | _, _ => false
theorem nonesB_eq : ∀ (n : Nat) (l : List (Option PObj)), nonesB n l = true → l = List.replicate n none
  | 0, [], _ => rfl
  | 0, _ :: _, h => by cases h
  | n + 1, [], h => by cases h
  | n + 1, none :: r, h => by rw [List.replicate_succ, ← nonesB_eq n r h]
  | n + 1, some _ :: r, h => by cases h
end Go.Proofs.YtphhepnldndbhaaGreatDoor.Sx
namespace Go.Proofs.YtphhepnldndbhaaGreatDoor
open Go Sx
abbrev tab1 : Tab := tab0
theorem tab1_ok : TabOK Tryz.prog tab1 := tab0_ok
end Go.Proofs.YtphhepnldndbhaaGreatDoor
namespace Go.Proofs.YtphhepnldndbhaaGreatDoor
open Go Sx
def ctlB (l : List UInt8) : Nat → Nat → Bool
  | 0, _ => true
  | n + 1, p => qyw (decide (p < l.length)) (qyw (decide (((Utf8.decode ⟨l.toArray⟩ p).1 : Int) < 32)) false (qyw (((Utf8.decode ⟨l.toArray⟩ p).1 : Int) == 127) false (ctlB l n (p + (Utf8.decode ⟨l.toArray⟩ p).2)))) true
def st56 (u l : List UInt8) (p : Nat) : qzw :=
  ⟨[some (.str u), none, some (.bool false), none, none, none, some (.ptr 0 0), none, none, none, none, none, none, none, none, none, none, none], some (.raw (.iter l p)) :: List.replicate 64 none⟩
def fin56 (u : List UInt8) : qzw :=
  ⟨[some (.str u), none, some (.bool false), none, none, none, none, none, none, none, none, none, none, none, none, none, none, none], List.replicate 64 none⟩
theorem round56 (u l : List UInt8) (p : Nat) : code noH Tryz.prog {} 0 64 1 ((qyu (bodyOf Tryz.f131)).headD .skip) (st56 u l p) (endK 0 64 (fun n => hasN [0, 2, 6] n) (fun n => hasN [0, 2] n)) =
    qyw (decide (p < l.length)) (qyw (decide (((Utf8.decode ⟨l.toArray⟩ p).1 : Int) < 32)) (some (.ret, fin56 u)) (qyw (((Utf8.decode ⟨l.toArray⟩ p).1 : Int) == 127) (some (.ret, fin56 u)) (some (.normal, st56 u l (p + (Utf8.decode ⟨l.toArray⟩ p).2))))) (some (.exit 0, fin56 u)) := by kernel_rfl
theorem loop56 (u l : List UInt8) : Tri Tryz.prog (.loop ((qyu (bodyOf Tryz.f131)).headD .skip)) (st56 u l 0).toA (qyw (ctlB l l.length 0) (.exit 0) .ret) (fin56 u).toA 0 := by
  refine loop_rounds (ι := { q : Nat × Nat // l.length ≤ q.1 + q.2 }) noH_ok (lv := {}) (NF := 64) (m := 1) (fun x hx id e h1 h2 => by cases h2) (fun n => hasN [0, 2, 6] n) (fun n => hasN [0, 2] n) (fun q => st56 u l q.1.1) (fun q => q.1.2) (fun q => (qyw (ctlB l q.1.2 q.1.1) (.exit 0) .ret, fin56 u)) ?_ (fun q => by simp only; cases ctlB l q.1.2 q.1.1 <;> simp [qyw]) ⟨(0, l.length), by simp⟩
  rintro ⟨⟨p, n⟩, hq⟩
  simp only at hq ⊢
  rw [round56]
  cases n with
  | zero => exact .inr (by rw [bcF (by simp; omega)]; rfl)
  | succ n =>
    simp only [ctlB]
    by_cases h1 : p < l.length
    · have e1 : decide (p < l.length) = true := by simpa using h1
      rw [e1]
      cases e2 : decide (((Utf8.decode ⟨l.toArray⟩ p).1 : Int) < 32) with
      | true => exact .inr rfl
      | false =>
        cases e3 : (((Utf8.decode ⟨l.toArray⟩ p).1 : Int) == 127) with
        | true => exact .inr rfl
        | false =>
          have hd : 1 ≤ (Utf8.decode ⟨l.toArray⟩ p).2 := Lib.width_pos _ _
          exact .inl ⟨⟨(p + (Utf8.decode ⟨l.toArray⟩ p).2, n), by simp only; omega⟩, by simp, rfl, rfl⟩
    · have e1 : decide (p < l.length) = false := by simpa using h1
      rw [e1]; exact .inr rfl
def e56 : Nat → qzw → LAns := fun K t => match K, t with
  | 0, ⟨[some (.str u), none, some (.bool false), none, none, none, some (.ptr 0 0), none, none, none, none, none, none, none, none, none, none, none], some (.raw (.iter l 0)) :: rest⟩ =>
    .chk (nonesB 64 rest) (.br (ctlB l l.length 0) (.out (.exit 0) (fin56 u)) (.out .ret (fin56 u)))
  | _, _ => .fail
def lv56 : FuncId → Lv := fun f => match f with
  | 131 => { keep := fun _ => some [0, 2, 6], ent := fun i => match i with | 2 => some e56 | _ => none }
  | _ => {}
theorem lv56_ok : LvOK Tryz.prog lv56 := by
  intro f fn body hf hb K x hx id e hid he t
  by_cases h : f = 131
  · subst h
    obtain rfl : fn = Tryz.f131 := (Option.some.inj (Tryz.func131.symm.trans hf)).symm
    have hbody : body = bodyOf Tryz.f131 := by unfold bodyOf; rw [hb]; rfl
    subst hbody
    have h1 : qyu (bodyOf Tryz.f131) = [(qyu (bodyOf Tryz.f131)).headD .skip] := by kernel_rfl
    rw [h1] at hx
    have hx' := List.mem_singleton.1 hx
    have h2 : id = 2 := by
      have h3 : headReg ((qyu (bodyOf Tryz.f131)).headD .skip) = some 2 := by kernel_rfl
      rw [hx', h3] at hid; exact (Option.some.inj hid).symm
    subst h2
    have he' : e56 = e := Option.some.inj he
    subst he'
    rw [hx']
    clear hx hx' hid he hb hf h1
    unfold e56
    split
    · rename_i u l rest
      refine ⟨fun hn => ?_, fun _ => trivial⟩
      rw [nonesB_eq _ _ hn]
      have := loop56 u l
      refine ⟨fun hc => ?_, fun hc => ?_⟩
      · rw [bcT hc] at this; exact this
      · rw [bcF hc] at this; exact this
    · trivial
  · exfalso
    have : (lv56 f).ent id = none := by
      unfold lv56
      split
      · exact absurd rfl h
      · rfl
    rw [this] at he; cases he
def textB (l : List UInt8) : Bool := ctlB l l.length 0 && Lib.validD l
def eIsText : Ent := fun args pre => match args, pre with
  | [.str l], [] => .chk (decide (l.length ≤ 9223372036854775807)) (.ret (.bool (textB l)) [])
  | _, _ => .fail
def tab4 : Tab := (153, eValid) :: tab1
theorem tab4_ok : TabOK Tryz.prog tab4 := .cons valid_ok tab1_ok
theorem isText_ok : EntOK Tryz.prog 131 eIsText := fun args pre => by
  unfold eIsText
  split
  · rename_i l
    have e : Comes tab4 lv56 131 [.str l] [] (.br (ctlB l l.length 0) (.chk (decide (l.length ≤ 9223372036854775807)) (.ret (.bool (Lib.validD l)) [])) (.ret (.bool false) [])) := by unfold Comes; kernel_rfl
    refine of_run (ans_comes tab4_ok e lv56_ok) fun r h => ?_
    obtain ⟨h1, h⟩ := chk_run h
    rw [← h]
    simp only [Ans.run, Ans.chk, h1, textB]
    cases ctlB l l.length 0 with
    | true => rfl
    | false => rfl
  · trivial
def tab5 : Tab := (131, eIsText) :: tab4
theorem tab5_ok : TabOK Tryz.prog tab5 := .cons isText_ok tab4_ok
def eCount : Ent := fun args pre => match args with
  | [.str s, .int .u8 c] => .ret (.int .i64 (Lib.countByte s c.toNat.toUInt8)) pre
  | _ => .fail
theorem eCount_ok : EntOK Tryz.prog 223 eCount := by
  intro args pre
  unfold eCount
  split
  · rename_i s c
    intro w E vs hvs hp
    obtain ⟨x, zs, hx, hz, rfl⟩ := qxz.1 hvs
    obtain ⟨y, us, hy, hu, rfl⟩ := qxz.1 hz
    simp only [denL, Option.some.injEq] at hu
    subst hu
    have hx : x = .string ⟨s.toArray⟩ := by simpa [den] using hx.symm
    have hy : y = .int .u8 c := by simpa [den] using hy.symm
    subst hx; subst hy
    refine Does.of (by decide) (.inr ⟨_, w, ?_, E, _, rfl, rfl, PostR.same hp⟩)
    rw [run_callFunc_extern Tryz.func223 (by kernel_rfl) (by kernel_rfl) (by kernel_rfl) (e := Extern.BytealgCount.count) (by kernel_rfl)]
    rw [Lib.run_countString]; rfl
  · trivial
def tAw : Tab := (223, eCount) :: tab5
theorem tAw_ok : TabOK Tryz.prog tAw := .cons eCount_ok tab5_ok
theorem memo1 {T : Tab} {f : FuncId} {a : List AV} {r : AV} (hT : TabOK Tryz.prog T) (h : Comes T nolv f a [] (.ret r [])) : Meets Tryz.prog f a [] r [] := qyx (pre := []) (post := []) hT host h qyz
theorem rsS : Comes [] nolv 88 [.str [83]] [] (.ret (.bool true) []) := by unfold Comes; kernel_rfl
theorem rsT : Comes [] nolv 88 [.str [84]] [] (.ret (.bool true) []) := by unfold Comes; kernel_rfl
theorem rI1 : Comes tAw nolv 40 [.str [49]] [] (.ret (.bool true) []) := by unfold Comes; kernel_rfl
theorem rAl : Comes [] nolv 90 [.str [83], .str [84]] [] (.ret (.bool false) []) := by unfold Comes; kernel_rfl
def eRsh : Ent := fun args pre => match args, pre with
  | [.str s], [] => .br (s == [83]) (.ret (.bool true) []) (.chk (s == [84]) (.ret (.bool true) []))
  | _, _ => .fail
theorem eRsh_ok : EntOK Tryz.prog 88 eRsh := fun args pre => by
  unfold eRsh
  split
  · rename_i s
    refine ⟨fun h => ?_, fun _ => ⟨fun h => ?_, fun _ => trivial⟩⟩
    · obtain rfl := eq_of_beq h
      exact memo1 .nil rsS
    · obtain rfl := eq_of_beq h
      exact memo1 .nil rsT
  · trivial
def eInp : Ent := fun args pre => match args, pre with
  | [.str s], [] => .chk (s == [49]) (.ret (.bool true) [])
  | _, _ => .fail
theorem eInp_ok : EntOK Tryz.prog 40 eInp := fun args pre => by
  unfold eInp
  split
  · refine ⟨fun h => ?_, fun _ => trivial⟩
    obtain rfl := eq_of_beq h
    exact memo1 tAw_ok rI1
  · trivial
def eRplC : Ent := fun args pre => match args, pre with
  | [.agg [.int .i64 s, .int .i64 r, .int .i64 c]], [] => .chk (hasB s 0 0 200 52 s r c) (.ret (.bool true) [])
  | _, _ => .fail
theorem eRplC_ok : EntOK Tryz.prog 67 eRplC := fun args pre => by
  unfold eRplC
  split
  · rename_i s r c
    refine ⟨fun h => ?_, fun _ => trivial⟩
    have := memo1 tMt_ok (rpl_comes s r c)
    rw [h] at this; exact this
  · trivial
def eCmpL : Ent := fun args pre => match args, pre with
  | [.agg [.int .i64 s, .int .i64 r, .int .i64 c], .agg [.int .i64 s', .int .i64 r', .int .i64 c']], [] => .chk (cmP s r c s' r' c' == -1) (.ret (.int .i64 (-1)) [])
  | _, _ => .fail
theorem eCmpL_ok : EntOK Tryz.prog 46 eCmpL := fun args pre => by
  unfold eCmpL
  split
  · rename_i s r c s' r' c'
    refine ⟨fun h => ?_, fun _ => trivial⟩
    have := eCmp_ok [.agg [.int .i64 s, .int .i64 r, .int .i64 c], .agg [.int .i64 s', .int .i64 r', .int .i64 c']] []
    have this : Meets _ _ _ _ (.int .i64 (cmP s r c s' r' c')) _ := this
    rw [eq_of_beq h] at this; exact this
  · trivial
def tWc : Tab := [(67, eRplC), (46, eCmpL), (40, eInp)]
theorem tWc_ok : TabOK Tryz.prog tWc := .cons eRplC_ok (.cons eCmpL_ok (.cons eInp_ok .nil))
end Go.Proofs.YtphhepnldndbhaaGreatDoor
namespace Go.Proofs.YtphhepnldndbhaaGreatDoor
open Go Sx
noncomputable abbrev loopW : Code := (qyu (bodyOf Tryz.f56)).headD .skip
abbrev oC0 : PObj := .raw (.cells [.int .i64 0, .int .i64 0, .str []] 63)
section
variable (X : List (List CV)) (p : Nat) (i : Int)
def sW : qzw := ⟨some (.vec 0 p) :: none :: some (.ptr 1 0) :: none :: none :: none :: none :: some (.vec 0 p) :: some (.int .i64 (p : Int)) :: some (.int .i64 i) :: nn 33, some (vC X) :: some oC0 :: nn 64⟩
def sWX : qzw := ⟨none :: none :: some (.ptr 1 0) :: nn 40, some (vC X) :: some oC0 :: nn 64⟩
abbrev kW : Nat → Bool := fun n => hasN [0, 2, 7, 8, 9] n
abbrev kWX : Nat → Bool := fun n => hasN [2] n
def ckW1 : List Bool := [ixN i p, inR i X, hasB 0 0 0 200 52 0 (c0 (Sx.rowAt X i.toNat)) (c1 (Sx.rowAt X i.toNat))]
def ckW2 : List Bool := [ixN (w64 (i - 1)) p, inR (w64 (i - 1)) X, cmP 0 (c0 (Sx.rowAt X (w64 (i - 1)).toNat)) (c1 (Sx.rowAt X (w64 (i - 1)).toNat)) 0 (c0 (Sx.rowAt X i.toNat)) (c1 (Sx.rowAt X i.toNat)) == -1, (rowCV (Sx.rowAt X i.toNat) 2).s == [49]]
theorem rW : code (ent Tryz.prog tWc nolv 64 1 20) Tryz.prog {} 1 64 1 loopW (sW X p i) (endK 1 64 kW kWX) = qyw (decide (i < (p : Int))) (chks (qyw (decide (i > 0)) (chks (some (.normal, sW X p (up1 i))) (ckW2 X p i)) (chks (some (.normal, sW X p (up1 i))) [(rowCV (Sx.rowAt X i.toNat) 2).s == [49]])) (ckW1 X p i)) (some (.exit 0, sWX X)) := by kernel_rfl
end
def okW (X : List (List CV)) : Prop := X.length ≤ 400 ∧ ∀ j, j < X.length → hasB 0 0 0 200 52 0 (c0 (Sx.rowAt X j)) (c1 (Sx.rowAt X j)) = true ∧ (rowCV (Sx.rowAt X j) 2).s = [49] ∧ ∀ k, j = k + 1 → cmP 0 (c0 (Sx.rowAt X k)) (c1 (Sx.rowAt X k)) 0 (c0 (Sx.rowAt X j)) (c1 (Sx.rowAt X j)) = -1
theorem loopWW {X : List (List CV)} (h : okW X) : Tri Tryz.prog (.loop loopW) (sW X X.length 0).toA (.exit 0) (sWX X).toA 1 := by
  obtain ⟨hl, h⟩ := h
  have key := loop_rounds (qzv (T := tWc) tWc_ok host qyz (NF := 64) (m := 1) 20) (NF := 64) (m := 1) (x := loopW) (K := 1) qyt kW kWX (ι := { j : Nat // j ≤ X.length }) (fun j => sW X X.length (j.1 : Int)) (fun j => X.length - j.1) (fun _ => (.exit 0, sWX X)) ?_ (fun _ => fun e => by cases e) ⟨0, Nat.zero_le _⟩
  · exact key
  rintro ⟨j, hj⟩
  simp only
  by_cases hlt : j < X.length
  · left
    refine ⟨⟨j + 1, hlt⟩, by simp only; omega, trivial, ?_⟩
    obtain ⟨h1, h2, h3⟩ := h j hlt
    rw [rW, bcT (decide_eq_true (by omega)), qzy (by
      intro b hb
      unfold ckW1 at hb
      rw [Int.toNat_natCast] at hb
      simp only [List.mem_cons, List.not_mem_nil, or_false] at hb
      rcases hb with rfl | rfl | rfl
      · exact ixN_nat hlt
      · exact inR_nat hlt
      · exact h1), up1_nat (by omega)]
    cases j with
    | zero => rw [bcF (decide_eq_false (by omega)), qzy (all1 (by rw [Int.toNat_natCast, h2]; rfl))]
    | succ k =>
      have hw : w64 (((k + 1 : Nat) : Int) - 1) = (k : Int) := by unfold w64; rw [i64_in (by omega) (by omega)]; omega
      rw [bcT (decide_eq_true (by omega)), qzy (by
        intro b hb
        unfold ckW2 at hb
        rw [hw, Int.toNat_natCast, Int.toNat_natCast] at hb
        simp only [List.mem_cons, List.not_mem_nil, or_false] at hb
        rcases hb with rfl | rfl | rfl | rfl
        · exact ixN_nat (by omega)
        · exact inR_nat (by omega)
        · rw [h3 k rfl]; rfl
        · rw [h2]; rfl)]
  · right
    rw [rW, bcF (decide_eq_false (by omega))]
noncomputable def lvW (X : List (List CV)) (c : Bool) : FuncId → Lv := lvOf 56 (fun _ => some [0, 2, 7, 8, 9]) (oneL 2 (eAt 1 (sW X X.length 0) (.chk c (.out (.exit 0) (sWX X)))))
theorem lvW_ok {X : List (List CV)} (h : okW X) : LvOK Tryz.prog (lvW X true) := lvOne_ok (x := loopW) Tryz.func56 (by kernel_rfl) fun K t => eAt_ok (a := .chk true (.out (.exit 0) (sWX X))) ⟨fun _ => loopWW h, fun _ => trivial⟩ K t
abbrev wcV : AV := .tuple [.agg [.int .i64 0, .int .i64 0, .str []], .bool false]
theorem wc_nil : Comes tWc nolv 56 [.qzz] [] (.ret wcV []) := by unfold Comes; kernel_rfl
theorem wc_vec (X : List (List CV)) (c : Bool) : Comes tWc (lvW X c) 56 [.vec 0 X.length] [vC X] (.chk (eqSt (sW X X.length 0) (sW X X.length 0)) (.chk c (.ret wcV [vC X]))) := by unfold Comes; kernel_rfl
open Classical in
noncomputable def eWc : Ent := fun args pre => match args, pre with
  | [.qzz], [] => .ret wcV []
  | [.vec j p], [.vecR sh X ty] => .chk (Nat.beq j 0 && shEq sh shC && Nat.beq ty 63) (.chk (Nat.beq p X.length) (.chk (decide (okW X)) (.ret wcV [.vecR sh X ty])))
  | _, _ => .fail
open Classical in
theorem eWc_ok : EntOK Tryz.prog 56 eWc := fun args pre => by
  unfold eWc
  split
  · exact qyx (pre := []) (post := []) tWc_ok host wc_nil qyz
  · rename_i j p sh X ty
    refine ⟨fun g0 => ⟨fun g1 => ⟨fun g2 => ?_, fun _ => trivial⟩, fun _ => trivial⟩, fun _ => trivial⟩
    simp only [Bool.and_eq_true, beqT] at g0
    obtain ⟨⟨rfl, g⟩, rfl⟩ := g0
    obtain rfl := shEq_of g
    obtain rfl := beqT.1 g1
    refine qyx (pre := [vC X]) (post := [vC X]) tWc_ok host ((wc_vec X true).trans ?_) (lvW_ok (of_decide_eq_true g2))
    rw [chkT (qzt _), chkT rfl]; rfl
  · trivial
end Go.Proofs.YtphhepnldndbhaaGreatDoor
namespace Go.Proofs.YtphhepnldndbhaaGreatDoor
open Go Sx
def eAlk : Ent := fun args pre => match args, pre with
  | [.str s, .str t], [] => .chk (s == [83] && t == [84]) (.ret (.bool false) [])
  | _, _ => .fail
theorem eAlk_ok : EntOK Tryz.prog 90 eAlk := fun args pre => by
  unfold eAlk
  split
  · refine ⟨fun h => ?_, fun _ => trivial⟩
    rw [Bool.and_eq_true] at h
    obtain rfl := eq_of_beq h.1
    obtain rfl := eq_of_beq h.2
    exact memo1 .nil rAl
  · trivial
noncomputable def tCk : Tab := [(88, eRsh), (90, eAlk), (56, eWc)]
theorem tCk_ok : TabOK Tryz.prog tCk := .cons eRsh_ok (.cons eAlk_ok (.cons eWc_ok .nil))
abbrev bkW : AV := .agg [.slice 0 0 2 2, .qzz, .qzz, .qzz]
noncomputable abbrev loopC1 : Code := (qyu (bodyOf Tryz.f20)).headD .skip
noncomputable abbrev loopC : Code := ((qyu (bodyOf Tryz.f20)).drop 1).headD .skip
def sC (pre : List (Option PObj)) (l : AV) (s : Int) (src : AV) (n i : Int) (t : List (Option PObj)) : qzw := ⟨nn 6 ++ (some l :: some (.int .i64 s) :: nn 12) ++ (some (.slice 0 0 2 2) :: some (.int .i64 2) :: some (.int .i64 s) :: nn 5) ++ (some src :: some (.int .i64 n) :: some (.int .i64 i) :: nn 12), pre ++ (t ++ nn 64)⟩
def sCX (pre : List (Option PObj)) (l : AV) (s : Int) (t : List (Option PObj)) : qzw := ⟨nn 6 ++ (some l :: nn 13) ++ (some (.slice 0 0 2 2) :: some (.int .i64 2) :: some (.int .i64 s) :: nn 20), pre ++ (t ++ nn 64)⟩
abbrev kC : Nat → Bool := fun n => hasN [6, 7, 20, 21, 22, 28, 29, 30] n
abbrev kCX : Nat → Bool := fun n => hasN [6, 20, 21, 22] n
section
variable (X Y L : List (List CV)) (p q n k : Nat) (s i : Int)
def pX : List (Option PObj) := [some (oSh (.vec 1 p) .qzz), some (vC X)]
def pY : List (Option PObj) := [some (oSh .qzz (.vec 1 q)), some (vC Y)]
def pXY : List (Option PObj) := [some (oSh (.vec 1 p) (.vec 2 q)), some (vC X), some (vC Y)]
def atC (X : List (List CV)) (s i : Int) : List CV := mkA s (c0 (Sx.rowAt X i.toNat)) (c1 (Sx.rowAt X i.toNat))
def ckR : List Bool := [ixN i n, inR i X]
def ckV : List Bool := [ixN i n, inR i X, decide ((vA L).len = k * 3) && roomB (k + 1) 24]
theorem rAn : code (ent Tryz.prog tCk nolv 64 1 20) Tryz.prog {} 2 64 1 loopC (sC (pX X p) .qzz s (.vec 1 n) n i []) (endK 2 64 kC kCX) = qyw (decide (i < (n : Int))) (chks (some (.normal, sC (pX X p) (.vec 2 1) s (.vec 1 n) n (up1 i) [some (vA [atC X s i])])) (ckR X n i)) (some (.exit 2, sCX (pX X p) .qzz s [])) := by kernel_rfl
theorem rAv : code (ent Tryz.prog tCk nolv 64 1 20) Tryz.prog {} 2 64 1 loopC (sC (pX X p) (.vec 2 k) s (.vec 1 n) n i [some (vA L)]) (endK 2 64 kC kCX) = qyw (decide (i < (n : Int))) (chks (some (.normal, sC (pX X p) (.vec 2 (k + 1)) s (.vec 1 n) n (up1 i) [some (vA (L ++ [atC X s i]))])) (ckV X L n k i)) (some (.exit 2, sCX (pX X p) (.vec 2 k) s [some (vA L)])) := by kernel_rfl
theorem rBn : code (ent Tryz.prog tCk nolv 64 1 20) Tryz.prog {} 2 64 1 loopC (sC (pY Y q) .qzz s (.vec 1 n) n i []) (endK 2 64 kC kCX) = qyw (decide (i < (n : Int))) (chks (some (.normal, sC (pY Y q) (.vec 2 1) s (.vec 1 n) n (up1 i) [some (vA [atC Y s i])])) (ckR Y n i)) (some (.exit 2, sCX (pY Y q) .qzz s [])) := by kernel_rfl
theorem rBv : code (ent Tryz.prog tCk nolv 64 1 20) Tryz.prog {} 2 64 1 loopC (sC (pY Y q) (.vec 2 k) s (.vec 1 n) n i [some (vA L)]) (endK 2 64 kC kCX) = qyw (decide (i < (n : Int))) (chks (some (.normal, sC (pY Y q) (.vec 2 (k + 1)) s (.vec 1 n) n (up1 i) [some (vA (L ++ [atC Y s i]))])) (ckV Y L n k i)) (some (.exit 2, sCX (pY Y q) (.vec 2 k) s [some (vA L)])) := by kernel_rfl
theorem rCn : code (ent Tryz.prog tCk nolv 64 1 20) Tryz.prog {} 3 64 1 loopC (sC (pXY X Y p q) .qzz s (.vec 1 n) n i []) (endK 3 64 kC kCX) = qyw (decide (i < (n : Int))) (chks (some (.normal, sC (pXY X Y p q) (.vec 3 1) s (.vec 1 n) n (up1 i) [some (vA [atC X s i])])) (ckR X n i)) (some (.exit 2, sCX (pXY X Y p q) .qzz s [])) := by kernel_rfl
theorem rCv : code (ent Tryz.prog tCk nolv 64 1 20) Tryz.prog {} 3 64 1 loopC (sC (pXY X Y p q) (.vec 3 k) s (.vec 1 n) n i [some (vA L)]) (endK 3 64 kC kCX) = qyw (decide (i < (n : Int))) (chks (some (.normal, sC (pXY X Y p q) (.vec 3 (k + 1)) s (.vec 1 n) n (up1 i) [some (vA (L ++ [atC X s i]))])) (ckV X L n k i)) (some (.exit 2, sCX (pXY X Y p q) (.vec 3 k) s [some (vA L)])) := by kernel_rfl
theorem rDv : code (ent Tryz.prog tCk nolv 64 1 20) Tryz.prog {} 3 64 1 loopC (sC (pXY X Y p q) (.vec 3 k) s (.vec 2 n) n i [some (vA L)]) (endK 3 64 kC kCX) = qyw (decide (i < (n : Int))) (chks (some (.normal, sC (pXY X Y p q) (.vec 3 (k + 1)) s (.vec 2 n) n (up1 i) [some (vA (L ++ [atC Y s i]))])) (ckV Y L n k i)) (some (.exit 2, sCX (pXY X Y p q) (.vec 3 k) s [some (vA L)])) := by kernel_rfl
end
end Go.Proofs.YtphhepnldndbhaaGreatDoor
namespace Go.Proofs.YtphhepnldndbhaaGreatDoor
open Go Sx
def colL (s : Int) (X : List (List CV)) : Nat → List (List CV)
  | 0 => []
  | j + 1 => colL s X j ++ [mkA s (c0 (Sx.rowAt X j)) (c1 (Sx.rowAt X j))]
theorem colL_len (s : Int) (X : List (List CV)) : ∀ j, (colL s X j).length = j
  | 0 => rfl
  | j + 1 => by rw [colL, List.length_append, colL_len s X j]; rfl
theorem atC_nat (X : List (List CV)) (s : Int) (j : Nat) : atC X s (j : Int) = mkA s (c0 (Sx.rowAt X j)) (c1 (Sx.rowAt X j)) := by unfold atC; rw [Int.toNat_natCast]
theorem loops_c {K n : Nat} (S : Nat → qzw) (E : qzw) (step : ∀ j, j < n → code (ent Tryz.prog tCk nolv 64 1 20) Tryz.prog {} K 64 1 loopC (S j) (endK K 64 kC kCX) = some (.normal, S (j + 1))) (last : code (ent Tryz.prog tCk nolv 64 1 20) Tryz.prog {} K 64 1 loopC (S n) (endK K 64 kC kCX) = some (.exit 2, E)) : Tri Tryz.prog (.loop loopC) (S 0).toA (.exit 2) E.toA K := by
  have key := loop_rounds (qzv (T := tCk) tCk_ok host qyz (NF := 64) (m := 1) 20) (NF := 64) (m := 1) (x := loopC) (K := K) qyt kC kCX (ι := { j : Nat // j ≤ n }) (fun j => S j.1) (fun j => n - j.1) (fun _ => (.exit 2, E)) ?_ (fun _ => fun e => by cases e) ⟨0, Nat.zero_le _⟩
  · exact key
  rintro ⟨j, hj⟩
  simp only
  by_cases hlt : j < n
  · exact .inl ⟨⟨j + 1, hlt⟩, by simp only; omega, trivial, step j hlt⟩
  · obtain rfl : j = n := by omega
    exact .inr last
section
variable {X Y L : List (List CV)} {p q n k : Nat} {s : Int}
theorem ckR_ok {X : List (List CV)} {j : Nat} (hj : j < X.length) : ∀ b ∈ ckR X X.length (j : Int), b = true := all2 (ixN_nat hj) (inR_nat hj)
theorem ckV_ok {X L : List (List CV)} {j : Nat} (hj : j < X.length) (hl : L.length ≤ 1000) : ∀ b ∈ ckV X L X.length L.length (j : Int), b = true := by
  intro b hb
  unfold ckV at hb
  simp only [List.mem_cons, List.not_mem_nil, or_false] at hb
  rcases hb with rfl | rfl | rfl
  · exact ixN_nat hj
  · exact inR_nat hj
  · rw [decide_eq_true (show (vA L).len = L.length * 3 from rfl)]; unfold roomB; exact decide_eq_true ⟨by omega, by omega⟩
def SN (pre : List (Option PObj)) (s : Int) (m : Nat) (X : List (List CV)) (src : AV) : Nat → qzw
  | 0 => sC pre .qzz s src X.length 0 []
  | j + 1 => sC pre (.vec m (j + 1)) s src X.length ((j + 1 : Nat) : Int) [some (vA (colL s X (j + 1)))]
theorem loopCA (h0 : 0 < X.length) (hn : X.length ≤ 400) : Tri Tryz.prog (.loop loopC) (sC (pX X p) .qzz s (.vec 1 X.length) X.length 0 []).toA (.exit 2) (sCX (pX X p) (.vec 2 X.length) s [some (vA (colL s X X.length))]).toA 2 := by
  refine loops_c (n := X.length) (SN (pX X p) s 2 X (.vec 1 X.length)) _ (fun j hj => ?_) ?_
  · have hu : up1 (j : Int) = ((j + 1 : Nat) : Int) := up1_nat (by omega)
    cases j with
    | zero => exact (rAn X p X.length s 0).trans ((bcT (decide_eq_true (by omega))).trans (qzy (ckR_ok hj)))
    | succ j =>
      have hl := colL_len s X (j + 1)
      have rd := rAv X (colL s X (j + 1)) p X.length (j + 1) s ((j + 1 : Nat) : Int)
      have ck := ckV_ok (L := colL s X (j + 1)) hj (by omega)
      rw [hl] at ck
      rw [bcT (decide_eq_true (by omega)), qzy ck, hu, atC_nat] at rd
      exact rd
  · cases hn' : X.length with
    | zero => omega
    | succ j =>
      have rd := rAv X (colL s X (j + 1)) p X.length (j + 1) s ((j + 1 : Nat) : Int)
      rw [bcF (decide_eq_false (by omega)), hn'] at rd
      unfold SN
      rw [hn']
      exact rd
theorem loopCB (h0 : 0 < Y.length) (hn : Y.length ≤ 400) : Tri Tryz.prog (.loop loopC) (sC (pY Y q) .qzz s (.vec 1 Y.length) Y.length 0 []).toA (.exit 2) (sCX (pY Y q) (.vec 2 Y.length) s [some (vA (colL s Y Y.length))]).toA 2 := by
  refine loops_c (n := Y.length) (SN (pY Y q) s 2 Y (.vec 1 Y.length)) _ (fun j hj => ?_) ?_
  · have hu : up1 (j : Int) = ((j + 1 : Nat) : Int) := up1_nat (by omega)
    cases j with
    | zero => exact (rBn Y q Y.length s 0).trans ((bcT (decide_eq_true (by omega))).trans (qzy (ckR_ok hj)))
    | succ j =>
      have hl := colL_len s Y (j + 1)
      have rd := rBv Y (colL s Y (j + 1)) q Y.length (j + 1) s ((j + 1 : Nat) : Int)
      have ck := ckV_ok (L := colL s Y (j + 1)) hj (by omega)
      rw [hl] at ck
      rw [bcT (decide_eq_true (by omega)), qzy ck, hu, atC_nat] at rd
      exact rd
  · cases hn' : Y.length with
    | zero => omega
    | succ j =>
      have rd := rBv Y (colL s Y (j + 1)) q Y.length (j + 1) s ((j + 1 : Nat) : Int)
      rw [bcF (decide_eq_false (by omega)), hn'] at rd
      unfold SN
      rw [hn']
      exact rd
theorem loopCC (h0 : 0 < X.length) (hn : X.length ≤ 400) : Tri Tryz.prog (.loop loopC) (sC (pXY X Y p q) .qzz s (.vec 1 X.length) X.length 0 []).toA (.exit 2) (sCX (pXY X Y p q) (.vec 3 X.length) s [some (vA (colL s X X.length))]).toA 3 := by
  refine loops_c (n := X.length) (SN (pXY X Y p q) s 3 X (.vec 1 X.length)) _ (fun j hj => ?_) ?_
  · have hu : up1 (j : Int) = ((j + 1 : Nat) : Int) := up1_nat (by omega)
    cases j with
    | zero => exact (rCn X Y p q X.length s 0).trans ((bcT (decide_eq_true (by omega))).trans (qzy (ckR_ok hj)))
    | succ j =>
      have hl := colL_len s X (j + 1)
      have rd := rCv X Y (colL s X (j + 1)) p q X.length (j + 1) s ((j + 1 : Nat) : Int)
      have ck := ckV_ok (L := colL s X (j + 1)) hj (by omega)
      rw [hl] at ck
      rw [bcT (decide_eq_true (by omega)), qzy ck, hu, atC_nat] at rd
      exact rd
  · cases hn' : X.length with
    | zero => omega
    | succ j =>
      have rd := rCv X Y (colL s X (j + 1)) p q X.length (j + 1) s ((j + 1 : Nat) : Int)
      rw [bcF (decide_eq_false (by omega)), hn'] at rd
      unfold SN
      rw [hn']
      exact rd
theorem loopCD (hL : L.length ≤ 400) (hn : Y.length ≤ 400) : Tri Tryz.prog (.loop loopC) (sC (pXY X Y p q) (.vec 3 L.length) s (.vec 2 Y.length) Y.length 0 [some (vA L)]).toA (.exit 2) (sCX (pXY X Y p q) (.vec 3 (L ++ colL s Y Y.length).length) s [some (vA (L ++ colL s Y Y.length))]).toA 3 := by
  have key := loops_c (K := 3) (n := Y.length) (fun j => sC (pXY X Y p q) (.vec 3 (L ++ colL s Y j).length) s (.vec 2 Y.length) Y.length (j : Int) [some (vA (L ++ colL s Y j))]) (sCX (pXY X Y p q) (.vec 3 (L ++ colL s Y Y.length).length) s [some (vA (L ++ colL s Y Y.length))]) (fun j hj => ?_) ?_
  · simp only [colL, List.append_nil] at key; exact key
  · have hu : up1 (j : Int) = ((j + 1 : Nat) : Int) := up1_nat (by omega)
    have hl := colL_len s Y j
    have hll : (L ++ colL s Y j).length ≤ 1000 := by rw [List.length_append, hl]; omega
    have rd := rDv X Y (L ++ colL s Y j) p q Y.length (L ++ colL s Y j).length s (j : Int)
    rw [bcT (decide_eq_true (by omega)), qzy (ckV_ok hj hll), hu, atC_nat] at rd
    have e : L ++ colL s Y (j + 1) = L ++ colL s Y j ++ [mkA s (c0 (Sx.rowAt Y j)) (c1 (Sx.rowAt Y j))] := by rw [colL, List.append_assoc]
    have e2 : (L ++ colL s Y (j + 1)).length = (L ++ colL s Y j).length + 1 := by rw [e, List.length_append]; rfl
    rw [e2, e]; exact rd
  · have rd := rDv X Y (L ++ colL s Y Y.length) p q Y.length (L ++ colL s Y Y.length).length s (Y.length : Int)
    rw [bcF (decide_eq_false (by omega))] at rd
    exact rd
end
theorem rAz (X L : List (List CV)) (p k : Nat) : code (ent Tryz.prog tCk nolv 64 1 20) Tryz.prog {} 2 64 1 loopC (sC (pX X p) (.vec 2 k) 1 .qzz 0 0 [some (vA L)]) (endK 2 64 kC kCX) = some (.exit 2, sCX (pX X p) (.vec 2 k) 1 [some (vA L)]) := by kernel_rfl
theorem rYz (Y : List (List CV)) (q : Nat) : code (ent Tryz.prog tCk nolv 64 1 20) Tryz.prog {} 2 64 1 loopC (sC (pY Y q) .qzz 0 .qzz 0 0 []) (endK 2 64 kC kCX) = some (.exit 2, sCX (pY Y q) .qzz 0 []) := by kernel_rfl
theorem tri_z {K : Nat} {S E : qzw} (h : code (ent Tryz.prog tCk nolv 64 1 20) Tryz.prog {} K 64 1 loopC S (endK K 64 kC kCX) = some (.exit 2, E)) : Tri Tryz.prog (.loop loopC) S.toA (.exit 2) E.toA K := loops_c (n := 0) (fun _ => S) E (fun j hj => absurd hj (Nat.not_lt_zero j)) h
noncomputable def eC1 (X L : List (List CV)) (c : Bool) : Nat → qzw → LAns := fun K st => match (st.slots.getD 28 none : Option AV) with
  | some AV.qzz => eAt 2 (sC (pX X X.length) (.vec 2 X.length) 1 .qzz 0 0 [some (vA L)]) (.out (.exit 2) (sCX (pX X X.length) (.vec 2 X.length) 1 [some (vA L)])) K st
  | _ => eAt 2 (sC (pX X X.length) .qzz 0 (.vec 1 X.length) X.length 0 []) (.chk c (.out (.exit 2) (sCX (pX X X.length) (.vec 2 X.length) 0 [some (vA L)]))) K st
noncomputable def eC2 (Y L : List (List CV)) (c : Bool) : Nat → qzw → LAns := fun K st => match (st.slots.getD 28 none : Option AV) with
  | some AV.qzz => eAt 2 (sC (pY Y Y.length) .qzz 0 .qzz 0 0 []) (.out (.exit 2) (sCX (pY Y Y.length) .qzz 0 [])) K st
  | _ => eAt 2 (sC (pY Y Y.length) .qzz 1 (.vec 1 Y.length) Y.length 0 []) (.chk c (.out (.exit 2) (sCX (pY Y Y.length) (.vec 2 Y.length) 1 [some (vA L)]))) K st
noncomputable def eC3 (X Y L L2 : List (List CV)) (k : Nat) (c : Bool) : Nat → qzw → LAns := fun K st => match (st.slots.getD 6 none : Option AV) with
  | some AV.qzz => eAt 3 (sC (pXY X Y X.length Y.length) .qzz 0 (.vec 1 X.length) X.length 0 []) (.chk c (.out (.exit 2) (sCX (pXY X Y X.length Y.length) (.vec 3 X.length) 0 [some (vA L)]))) K st
  | _ => eAt 3 (sC (pXY X Y X.length Y.length) (.vec 3 X.length) 1 (.vec 2 Y.length) Y.length 0 [some (vA L)]) (.chk c (.out (.exit 2) (sCX (pXY X Y X.length Y.length) (.vec 3 k) 1 [some (vA L2)]))) K st
def kpC : Nat → Option (List Nat) := fun i => if i = 9 then some [6, 7, 20, 21, 22, 28, 29, 30] else none
noncomputable abbrev lvC (e : Nat → qzw → LAns) : FuncId → Lv := lvOf 20 kpC (oneL 9 e)
abbrev clV (l : AV) : AV := .tuple [l, .int .i64 0]
abbrev clE : AV := .tuple [.qzz, .int .i64 96]
theorem cl_0 : Comes tCk nolv 20 [bkW] [oSh .qzz .qzz] (.ret (clV .qzz) [oSh .qzz .qzz]) := by unfold Comes; kernel_rfl
open Classical in
theorem cl_1 (X L : List (List CV)) (c : Bool) : Comes tCk (lvC (eC1 X L c)) 20 [bkW] [oSh (.vec 1 X.length) .qzz, vC X]
  (.br (decide (w64 (w64 (0 + (X.length : Int)) + 0) ≤ 400)) (.chk (Nat.beq X.length X.length) (.chk (decide (okW X)) (.chk (eqSt (sC (pX X X.length) .qzz 0 (.vec 1 X.length) X.length 0 []) (sC (pX X X.length) .qzz 0 (.vec 1 X.length) X.length 0 [])) (.chk c (.chk (eqSt (sC (pX X X.length) (.vec 2 X.length) 1 .qzz 0 0 [some (vA L)]) (sC (pX X X.length) (.vec 2 X.length) 1 .qzz 0 0 [some (vA L)])) (.ret (clV (.vec 2 X.length)) [oSh (.vec 1 X.length) .qzz, vC X, vA L])))))) (.ret clE [oSh (.vec 1 X.length) .qzz, vC X])) := by unfold Comes; kernel_rfl
end Go.Proofs.YtphhepnldndbhaaGreatDoor
namespace Go.Proofs.YtphhepnldndbhaaGreatDoor
open Go Sx
open Classical in
theorem cl_2 (Y L : List (List CV)) (c : Bool) : Comes tCk (lvC (eC2 Y L c)) 20 [bkW] [oSh .qzz (.vec 1 Y.length), vC Y]
  (.br (decide (w64 (w64 (0 + 0) + (Y.length : Int)) ≤ 400)) (.chk (Nat.beq Y.length Y.length) (.chk (decide (okW Y)) (.chk (eqSt (sC (pY Y Y.length) .qzz 0 .qzz 0 0 []) (sC (pY Y Y.length) .qzz 0 .qzz 0 0 [])) (.chk (eqSt (sC (pY Y Y.length) .qzz 1 (.vec 1 Y.length) Y.length 0 []) (sC (pY Y Y.length) .qzz 1 (.vec 1 Y.length) Y.length 0 [])) (.chk c (.ret (clV (.vec 2 Y.length)) [oSh .qzz (.vec 1 Y.length), vC Y, vA L])))))) (.ret clE [oSh .qzz (.vec 1 Y.length), vC Y])) := by unfold Comes; kernel_rfl
open Classical in
theorem cl_3 (X Y L L2 : List (List CV)) (k : Nat) (c : Bool) : Comes tCk (lvC (eC3 X Y L L2 k c)) 20 [bkW] [oSh (.vec 1 X.length) (.vec 2 Y.length), vC X, vC Y]
  (.br (decide (w64 (w64 (0 + (X.length : Int)) + (Y.length : Int)) ≤ 400)) (.chk (Nat.beq X.length X.length) (.chk (decide (okW X)) (.chk (Nat.beq Y.length Y.length) (.chk (decide (okW Y)) (.chk (eqSt (sC (pXY X Y X.length Y.length) .qzz 0 (.vec 1 X.length) X.length 0 []) (sC (pXY X Y X.length Y.length) .qzz 0 (.vec 1 X.length) X.length 0 [])) (.chk c (.chk (eqSt (sC (pXY X Y X.length Y.length) (.vec 3 X.length) 1 (.vec 2 Y.length) Y.length 0 [some (vA L)]) (sC (pXY X Y X.length Y.length) (.vec 3 X.length) 1 (.vec 2 Y.length) Y.length 0 [some (vA L)])) (.chk c (.ret (clV (.vec 3 k)) [oSh (.vec 1 X.length) (.vec 2 Y.length), vC X, vC Y, vA L2]))))))))) (.ret clE [oSh (.vec 1 X.length) (.vec 2 Y.length), vC X, vC Y])) := by unfold Comes; kernel_rfl
end Go.Proofs.YtphhepnldndbhaaGreatDoor
namespace Go.Proofs.YtphhepnldndbhaaGreatDoor
open Go Sx
def bkP : List (List CV) → List (List CV) → List PObj
  | [], [] => [oSh .qzz .qzz]
  | X, [] => [oSh (.vec 1 X.length) .qzz, vC X]
  | [], Y => [oSh .qzz (.vec 1 Y.length), vC Y]
  | X, Y => [oSh (.vec 1 X.length) (.vec 2 Y.length), vC X, vC Y]
def clL (X Y : List (List CV)) : List (List CV) := colL 0 X X.length ++ colL 1 Y Y.length
def okBk (X Y : List (List CV)) : Prop := okW X ∧ okW Y ∧ X.length + Y.length ≤ 400
def clR (n : Nat) : List (List CV) → AV
  | [] => .qzz
  | L => .vec n L.length
def clO : List (List CV) → List PObj
  | [] => []
  | L => [vA L]
theorem cl_pos {L : List (List CV)} {n : Nat} (h : 0 < L.length) : clR n L = .vec n L.length ∧ clO L = [vA L] := by
  cases L with
  | nil => exact absurd h (Nat.lt_irrefl _)
  | cons x L => exact ⟨rfl, rfl⟩
theorem lvC_ok {e : Nat → qzw → LAns} (h : ∀ K t, LAnsOK Tryz.prog loopC K t (e K t)) : LvOK Tryz.prog (lvC e) := lvOf_ok Tryz.func20 fun x hx id en hid he => by
  obtain ⟨rfl, rfl⟩ := oneL_some he
  have e2 : qyu (bodyOf Tryz.f20) = [loopC1, loopC] := by kernel_rfl
  rw [e2] at hx
  rcases List.mem_cons.1 hx with rfl | hx
  · have h9 : (headReg loopC1 == some 9) = false := by kernel_rfl
    exact absurd hid (fun e => by rw [e] at h9; exact absurd h9 (by decide))
  · obtain rfl := List.mem_singleton.1 hx
    exact h
open Classical in
theorem cells_meets {X Y : List (List CV)} (h : okBk X Y) : Meets Tryz.prog 20 [bkW] ((bkP X Y).map PObj.toA) (clV (clR (bkP X Y).length (clL X Y))) ((bkP X Y ++ clO (clL X Y)).map PObj.toA) := by
  obtain ⟨hX, hY, hs⟩ := h
  have hw : ∀ {n : Nat}, n ≤ 400 → w64 (n : Int) = (n : Int) := fun hn => w64_of (inI_iff.2 ⟨by omega, by omega⟩)
  cases X with
  | nil => cases Y with
    | nil => exact qyx (pre := [oSh .qzz .qzz]) (post := [oSh .qzz .qzz]) tCk_ok host cl_0 qyz
    | cons y Y =>
      have hn : (y :: Y).length ≤ 400 := hY.1
      have e : clL [] (y :: Y) = colL 1 (y :: Y) (y :: Y).length := by show [] ++ _ = _; rw [List.nil_append]
      have el := colL_len 1 (y :: Y) (y :: Y).length
      have er : clR (bkP [] (y :: Y)).length (clL [] (y :: Y)) = .vec 2 (y :: Y).length := by
        rw [e, (cl_pos (by rw [el]; exact Nat.succ_pos _)).1, el]; rfl
      have eo : clO (clL [] (y :: Y)) = [vA (colL 1 (y :: Y) (y :: Y).length)] := by rw [e, (cl_pos (n := 0) (by rw [el]; exact Nat.succ_pos _)).2]
      rw [er, eo]
      have key := cl_2 (y :: Y) (colL 1 (y :: Y) (y :: Y).length) true
      refine qyx (pre := bkP [] (y :: Y)) (post := bkP [] (y :: Y) ++ [vA (colL 1 (y :: Y) (y :: Y).length)]) tCk_ok host (key.trans ?_) (lvC_ok fun K t => ?_)
      · rw [brT (decide_eq_true (by
          rw [show w64 (0 + 0) = 0 from rfl, Int.zero_add, hw hn]; omega)), chkT (Nat.beq_refl _), chkT (decide_eq_true hY), chkT (qzt _), chkT (qzt _), chkT rfl]; rfl
      · unfold eC2
        split
        · exact eAt_ok (a := .out (.exit 2) _) (tri_z (rYz _ _)) K t
        · exact eAt_ok (a := .chk true (.out (.exit 2) _)) ⟨fun _ => loopCB (by simp only [List.length_cons]; omega) hn, fun _ => trivial⟩ K t
  | cons x X => cases Y with
    | nil =>
      have hn : (x :: X).length ≤ 400 := hX.1
      have e : clL (x :: X) [] = colL 0 (x :: X) (x :: X).length := by show _ ++ [] = _; rw [List.append_nil]
      have el := colL_len 0 (x :: X) (x :: X).length
      have er : clR (bkP (x :: X) []).length (clL (x :: X) []) = .vec 2 (x :: X).length := by
        rw [e, (cl_pos (by rw [el]; exact Nat.succ_pos _)).1, el]; rfl
      have eo : clO (clL (x :: X) []) = [vA (colL 0 (x :: X) (x :: X).length)] := by rw [e, (cl_pos (n := 0) (by rw [el]; exact Nat.succ_pos _)).2]
      rw [er, eo]
      have key := cl_1 (x :: X) (colL 0 (x :: X) (x :: X).length) true
      refine qyx (pre := bkP (x :: X) []) (post := bkP (x :: X) [] ++ [vA (colL 0 (x :: X) (x :: X).length)]) tCk_ok host (key.trans ?_) (lvC_ok fun K t => ?_)
      · rw [brT (decide_eq_true (by
          rw [Int.zero_add, hw hn, Int.add_zero, hw hn]; omega)), chkT (Nat.beq_refl _), chkT (decide_eq_true hX), chkT (qzt _), chkT rfl, chkT (qzt _)]; rfl
      · unfold eC1
        split
        · exact eAt_ok (a := .out (.exit 2) _) (tri_z (rAz _ _ _ _)) K t
        · exact eAt_ok (a := .chk true (.out (.exit 2) _)) ⟨fun _ => loopCA (by simp only [List.length_cons]; omega) hn, fun _ => trivial⟩ K t
    | cons y Y =>
      have hn : (x :: X).length ≤ 400 := hX.1
      have hm : (y :: Y).length ≤ 400 := hY.1
      have el := colL_len 0 (x :: X) (x :: X).length
      have er : clR (bkP (x :: X) (y :: Y)).length (clL (x :: X) (y :: Y)) = .vec 3 (clL (x :: X) (y :: Y)).length := (cl_pos (by unfold clL; rw [List.length_append, el]; simp only [List.length_cons]; omega)).1
      have eo : clO (clL (x :: X) (y :: Y)) = [vA (clL (x :: X) (y :: Y))] := (cl_pos (n := 0) (by unfold clL; rw [List.length_append, el]; simp only [List.length_cons]; omega)).2
      rw [er, eo]
      have key := cl_3 (x :: X) (y :: Y) (colL 0 (x :: X) (x :: X).length) (clL (x :: X) (y :: Y)) (clL (x :: X) (y :: Y)).length true
      refine qyx (pre := bkP (x :: X) (y :: Y)) (post := bkP (x :: X) (y :: Y) ++ [vA (clL (x :: X) (y :: Y))]) tCk_ok host (key.trans ?_) (lvC_ok fun K t => ?_)
      · rw [brT (decide_eq_true (by
          rw [Int.zero_add, hw hn, show (((x :: X).length : Nat) : Int) + ((y :: Y).length : Nat) = (((x :: X).length + (y :: Y).length : Nat) : Int) by omega, hw hs]; omega)), chkT (Nat.beq_refl _), chkT (decide_eq_true hX), chkT (Nat.beq_refl _), chkT (decide_eq_true hY), chkT (qzt _), chkT rfl, chkT (qzt _), chkT rfl]; rfl
      · unfold eC3
        split
        · exact eAt_ok (a := .chk true (.out (.exit 2) _)) ⟨fun _ => loopCC (by simp only [List.length_cons]; omega) hn, fun _ => trivial⟩ K t
        · have kd := loopCD (X := x :: X) (Y := y :: Y) (L := colL 0 (x :: X) (x :: X).length) (p := (x :: X).length) (q := (y :: Y).length) (s := 1) (by rw [el]; exact hn) hm
          have eL : colL 0 (x :: X) (x :: X).length ++ colL 1 (y :: Y) (y :: Y).length = clL (x :: X) (y :: Y) := rfl
          rw [eL, el] at kd
          exact eAt_ok (a := .chk true (.out (.exit 2) _)) ⟨fun _ => kd, fun _ => trivial⟩ K t
end Go.Proofs.YtphhepnldndbhaaGreatDoor
namespace Go.Proofs.YtphhepnldndbhaaGreatDoor
open Go Sx
noncomputable abbrev loopR : Code := (qyu (bodyOf Tryz.f27)).headD .skip
abbrev oM (ks : List (List Int)) : PObj := .raw (.mapS 3 ks)
section
variable (L : List (List CV)) (ks : List (List Int)) (n : Nat) (i : Int)
abbrev kR : Nat → Bool := fun n => hasN [0, 1, 7, 8, 9] n
abbrev kRX : Nat → Bool := fun n => hasN [4] n
end
end Go.Proofs.YtphhepnldndbhaaGreatDoor
namespace Go.Proofs.YtphhepnldndbhaaGreatDoor
open Go Sx
def rfs : Code → List (List Tmp × Code × Code)
  | .seq a b => rfs a ++ rfs b
  | .cond _ a b => rfs a ++ rfs b
  | .block _ c => rfs c
  | .loop c => rfs c
  | .scope c => rfs c
  | .rangeFunc _ ps asg body => [(ps.toList, asg, body)]
  | _ => []
noncomputable abbrev rf1 : List Tmp × Code × Code := (rfs (bodyOf Tryz.f14)).headD ([], .skip, .skip)
noncomputable abbrev rf2 : List Tmp × Code × Code := ((rfs (bodyOf Tryz.f14)).drop 1).headD ([], .skip, .skip)
abbrev oA3 (s r c : Int) : PObj := .raw (.cells [.int .i64 s, .int .i64 r, .int .i64 c] 25)
abbrev oA5 (s r c h w : Int) : PObj := .raw (.cells [.int .i64 s, .int .i64 r, .int .i64 c, .int .i64 h, .int .i64 w] 51)
abbrev oS5 (s r c h w : Int) : PObj := .raw (.cells [.int .i64 s, .int .i64 r, .int .i64 c, .int .i64 h, .int .i64 w] 27)
noncomputable abbrev oL1 (st : LSt) : PObj := .raw (.loopR st 86 [9, 13, 15] [.ptr 2 0, .ptr 3 0, .ptr 4 0] rf1.1 rf1.2.1 rf1.2.2)
noncomputable abbrev oL2 (st : LSt) : PObj := .raw (.loopR st 86 [9] [.ptr 2 0] rf2.1 rf2.2.1 rf2.2.2)
abbrev oP1 (v : AV) (t : Nat) : PObj := .raw (.cells [v] t)
noncomputable abbrev loopN1 : Code := (qyu (bodyOf Tryz.f47)).headD .skip
noncomputable abbrev loopN2 : Code := ((qyu (bodyOf Tryz.f47)).drop 1).headD .skip
abbrev aY : List (Option AV) := [some (.func yF [.ptr 0 0] []), some (.ptr 1 0)]
section
variable (M : List (Option PObj)) (h w i j : Int)
def sN (i : Int) : qzw := ⟨aY ++ (nn 4 ++ (some (.int .i64 h) :: some (.int .i64 i) :: nn 23)), M ++ nn 64⟩
def sNi (i j : Int) : qzw := ⟨aY ++ (none :: some (.int .i64 i) :: nn 2 ++ (some (.int .i64 h) :: some (.int .i64 i) :: nn 3 ++ (some (.int .i64 w) :: some (.int .i64 j) :: nn 18))), M ++ nn 64⟩
def sNX : qzw := ⟨nn 31, M ++ nn 64⟩
end
abbrev kN1 : Nat → Bool := fun n => hasN [0, 1, 6, 7] n
abbrev kN2 : Nat → Bool := fun n => hasN [0, 1, 6, 7, 3, 11, 12] n
abbrev kNX : Nat → Bool := fun n => hasN [] n
section
variable (ks : List (List Int)) (A : List (List CV)) (k : Nat) (s r c h w i j s' r' c' h' w' : Int)
noncomputable def m1n (st : LSt) : List (Option PObj) := [some (oL1 st), some (oA5 s r c h w), some (oP1 (.mapp 5) 71), some (oP1 .qzz 22), some (oS5 s' r' c' h' w'), some (oM ks)]
noncomputable def m1v (st : LSt) : List (Option PObj) := [some (oL1 st), some (oA5 s r c h w), some (oP1 (.mapp 5) 71), some (oP1 (.vec 6 k) 22), some (oS5 s' r' c' h' w'), some (oM ks), some (vA A)]
noncomputable def m1w (st : LSt) : List (Option PObj) := [some (oL1 st), some (oA5 s r c h w), some (oP1 (.mapp 5) 71), some (oP1 (.vec 7 k) 22), some (oS5 s' r' c' h' w'), some (oM ks), some (.raw .dead), some (vA A)]
noncomputable def m2 (st : LSt) : List (Option PObj) := [some (oL2 st), some (oA5 s r c h w), some (oP1 (.mapp 3) 71), some (oM ks)]
def keyI : List Int := [s, w64 (r + i), w64 (c + j)]
def ownB : Bool := s == s' && (w64 (r + i) == r' && (w64 (c + j) == c' && true))
abbrev stE : LSt := LSt.of (.exit 3)
theorem n2n : code (ent Tryz.prog [] nolv 64 1 20) Tryz.prog {} 6 64 1 loopN2 (sNi (m1n ks s r c h w s' r' c' h' w' .ready) h w i j) (endK 6 64 kN2 kN1)
  = qyw (decide (j < w)) (qyw (memK ks (keyI s r c i j)) (qyw (!ownB s r c i j s' r' c') (some (.ret, sN (m1v ks [mkA s' r' c'] 1 s r c h w s' r' c' h' w' stE) h i)) (some (.normal, sNi (m1n ks s r c h w s' r' c' h' w' .ready) h w i (up1 j)))) (some (.normal, sNi (m1n ks s r c h w s' r' c' h' w' .ready) h w i (up1 j)))) (some (.exit 2, sN (m1n ks s r c h w s' r' c' h' w' .ready) h i)) := by kernel_rfl
theorem n2v : code (ent Tryz.prog [] nolv 64 1 20) Tryz.prog {} 7 64 1 loopN2 (sNi (m1v ks A k s r c h w s' r' c' h' w' .ready) h w i j) (endK 7 64 kN2 kN1)
  = qyw (decide (j < w)) (qyw (memK ks (keyI s r c i j)) (qyw (!ownB s r c i j s' r' c') (chks (some (.ret, sN (m1w ks (A ++ [mkA s' r' c']) (k + 1) s r c h w s' r' c' h' w' stE) h i)) [decide ((vA A).len = k * 3) && roomB (k + 1) 24]) (some (.normal, sNi (m1v ks A k s r c h w s' r' c' h' w' .ready) h w i (up1 j)))) (some (.normal, sNi (m1v ks A k s r c h w s' r' c' h' w' .ready) h w i (up1 j)))) (some (.exit 2, sN (m1v ks A k s r c h w s' r' c' h' w' .ready) h i)) := by kernel_rfl
theorem n2m : code (ent Tryz.prog [] nolv 64 1 20) Tryz.prog {} 4 64 1 loopN2 (sNi (m2 ks s r c h w .ready) h w i j) (endK 4 64 kN2 kN1)
  = qyw (decide (j < w)) (some (.normal, sNi (m2 (addK ks (keyI s r c i j)) s r c h w .ready) h w i (up1 j))) (some (.exit 2, sN (m2 ks s r c h w .ready) h i)) := by kernel_rfl
end
def outI (c b : Bool) (F E : qzw) : LAns := .chk c (.br b (.out .ret F) (.out (.exit 2) E))
noncomputable def lvI (K : Nat) (S : qzw) (x : LAns) : FuncId → Lv := lvOf 47 (fun i => if i = 1 then some [0, 1, 6, 7] else some [0, 1, 6, 7, 3, 11, 12]) (oneL 4 (eAt K S x))
section
variable (ks ks' : List (List Int)) (A A' : List (List CV)) (k k' : Nat) (s r c h w i s' r' c' h' w' : Int) (ok b : Bool)
theorem n1n : code (ent Tryz.prog [] (lvI 6 (sNi (m1n ks s r c h w s' r' c' h' w' .ready) h w i 0) (outI ok b (sN (m1v ks A 1 s r c h w s' r' c' h' w' stE) h i) (sN (m1n ks s r c h w s' r' c' h' w' .ready) h i))) 64 1 20) Tryz.prog (lvI 6 (sNi (m1n ks s r c h w s' r' c' h' w' .ready) h w i 0) (outI ok b (sN (m1v ks A 1 s r c h w s' r' c' h' w' stE) h i) (sN (m1n ks s r c h w s' r' c' h' w' .ready) h i)) 47) 6 64 1 loopN1 (sN (m1n ks s r c h w s' r' c' h' w' .ready) h i) (endK 6 64 kN1 kNX)
  = qyw (decide (i < h)) (chks (qyw b (some (.ret, sNX (m1v ks A 1 s r c h w s' r' c' h' w' stE))) (some (.normal, sN (m1n ks s r c h w s' r' c' h' w' .ready) h (up1 i)))) [eqSt (sNi (m1n ks s r c h w s' r' c' h' w' .ready) h w i 0) (sNi (m1n ks s r c h w s' r' c' h' w' .ready) h w i 0), ok]) (some (.exit 0, sNX (m1n ks s r c h w s' r' c' h' w' .ready))) := by kernel_rfl
theorem n1v : code (ent Tryz.prog [] (lvI 7 (sNi (m1v ks A k s r c h w s' r' c' h' w' .ready) h w i 0) (outI ok b (sN (m1w ks A' k' s r c h w s' r' c' h' w' stE) h i) (sN (m1v ks A k s r c h w s' r' c' h' w' .ready) h i))) 64 1 20) Tryz.prog (lvI 7 (sNi (m1v ks A k s r c h w s' r' c' h' w' .ready) h w i 0) (outI ok b (sN (m1w ks A' k' s r c h w s' r' c' h' w' stE) h i) (sN (m1v ks A k s r c h w s' r' c' h' w' .ready) h i)) 47) 7 64 1 loopN1 (sN (m1v ks A k s r c h w s' r' c' h' w' .ready) h i) (endK 7 64 kN1 kNX)
  = qyw (decide (i < h)) (chks (qyw b (some (.ret, sNX (m1w ks A' k' s r c h w s' r' c' h' w' stE))) (some (.normal, sN (m1v ks A k s r c h w s' r' c' h' w' .ready) h (up1 i)))) [eqSt (sNi (m1v ks A k s r c h w s' r' c' h' w' .ready) h w i 0) (sNi (m1v ks A k s r c h w s' r' c' h' w' .ready) h w i 0), ok]) (some (.exit 0, sNX (m1v ks A k s r c h w s' r' c' h' w' .ready))) := by kernel_rfl
theorem n1m : code (ent Tryz.prog [] (lvI 4 (sNi (m2 ks s r c h w .ready) h w i 0) (.chk ok (.out (.exit 2) (sN (m2 ks' s r c h w .ready) h i)))) 64 1 20) Tryz.prog (lvI 4 (sNi (m2 ks s r c h w .ready) h w i 0) (.chk ok (.out (.exit 2) (sN (m2 ks' s r c h w .ready) h i))) 47) 4 64 1 loopN1 (sN (m2 ks s r c h w .ready) h i) (endK 4 64 kN1 kNX)
  = qyw (decide (i < h)) (chks (some (.normal, sN (m2 ks' s r c h w .ready) h (up1 i))) [eqSt (sNi (m2 ks s r c h w .ready) h w i 0) (sNi (m2 ks s r c h w .ready) h w i 0), ok]) (some (.exit 0, sNX (m2 ks s r c h w .ready))) := by kernel_rfl
end
end Go.Proofs.YtphhepnldndbhaaGreatDoor
