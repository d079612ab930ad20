/- Layer 2, the document's own answers: columns, digits. -/
import Derived.Test.YtanhlbdcjonaoaaGreatDoorGr09
import Derived.Test.YtanhlbdcjonaoaaGreatDoorRbE
import Derived.Test.YtanhlbdcjonaoaaGreatDoorRdT
import Derived.Test.YtanhlbdcjonaoaaGreatDoorRbA
import Derived.Test.YtanhlbdcjonaoaaGreatDoorGr07
import Derived.Lib.IndexLaws
import Derived.Test.YtanhlbdcjonaoaaGreatDoorRdS
import Derived.Lib.ValidLaws
import Derived.Lib.TrimUEq
import Derived.Laws.RangeAny
import Derived.Laws.RangeString
import Derived.Lib.DecodeN
set_option linter.unusedVariables false
set_option linter.unusedSimpArgs false
namespace Go.Proofs.YtanhlbdcjonaoaaGreatDoor
open Go Sx

def grtL : List UInt8 := [65, 66, 67, 68, 69, 70, 71, 72, 73, 74, 75, 76, 77, 78, 79, 80, 81, 82, 83, 84, 85, 86, 87, 88, 89, 90]
def grP (m : Int) : List UInt8 := List.take ((swA m).toNat - m.toNat) (List.drop m.toNat grtL)
def colE (n : Int) : Int := bcond (colB n) 0 20
def colC (n : Int) : List UInt8 := bcond (colB n) (colS n.toNat) []
def eColO (C : Int → List UInt8) (E : Int → Int) : Ent := fun args pre => match args, pre with
  | [.int .i64 n], [] => .chk (inI n) (.ret (.tuple [.str (C n), .int .i64 (E n)]) [])
  | _, _ => .fail
theorem columnD_runs : (List.range 52).map (fun n : Nat => ent (R := AV × List PObj) Tryz.prog tab0 nolv 64 18446744073709551616 30 14 [.int .i64 (n : Int)] [] pure2) = (List.range 52).map (fun n => some (.tuple [.str (colS n), .int .i64 0], [])) := by kernel_rfl
theorem columnD_ok : EntOK Tryz.prog 14 (eColO colC colE) := fun args pre => by
  unfold eColO
  split
  · rename_i n
    refine ⟨fun hi => ?_, fun _ => trivial⟩
    unfold colC colE
    by_cases hb : 0 ≤ n ∧ n < 52
    · have hc : colB n = true := decide_eq_true hb
      obtain ⟨k, rfl⟩ : ∃ k : Nat, n = k := ⟨n.toNat, by omega⟩
      have := congrArg (·[k]?) columnD_runs
      simp only [List.getElem?_map, List.getElem?_range (show k < 52 by omega), Option.map_some] at this
      rw [hc]
      exact meets_ent tab0_ok host (Option.some.inj this)
    · have hc : colB n = false := decide_eq_false hb
      have e : Comes tab0 nolv 14 [.int .i64 n] [] (.br (decide (n < 0)) (.ret (.tuple [.str [], .int .i64 20]) []) (.br (decide (n > 51)) (.ret (.tuple [.str [], .int .i64 20]) [])
        (.br (decide (0 ≤ n.tmod 26 ∧ 0 ≤ swA (n.tmod 26) ∧ (n.tmod 26).toNat ≤ (swA (n.tmod 26)).toNat ∧ (swA (n.tmod 26)).toNat ≤ grtL.length)) (.br (decide (n < 26)) (.ret (.tuple [.str (grP (n.tmod 26)), .int .i64 0]) [])
          (.br (decide ([(65 : UInt8)].length + (grP (n.tmod 26)).length ≤ 9223372036854775807)) (.ret (.tuple [.str ([65] ++ grP (n.tmod 26)), .int .i64 0]) []) .fail)) .fail))) := by unfold Comes; kernel_rfl
      obtain ⟨h1, h2⟩ := ans_comes tab0_ok e
      rw [hc]
      by_cases c : n < 0
      · exact h1 (decide_eq_true c)
      · exact (h2 (decide_eq_false c)).1 (decide_eq_true (by omega))
  · trivial

/-! ### The column of a text -/
def fdR (u : List UInt8) : Nat → Nat → Option Nat
  | 0, _ => none
  | f + 1, n => bcond (colS n == u) (some n) (fdR u f (n + 1))
def stRc (l : List UInt8) (i : Int) : PState := ⟨some (.str l) :: none :: none :: none :: some (.int .i64 i) :: List.replicate 19 none, List.replicate 64 none⟩
def finRc (i : Int) : PState := ⟨none :: none :: some (.int .i64 i) :: some (.int .i64 0) :: List.replicate 20 none, List.replicate 64 none⟩
def finRx : PState := ⟨List.replicate 24 none, List.replicate 64 none⟩
def tabRD (C : Int → List UInt8) (E : Int → Int) : Tab := (14, eColO C E) :: (41, eGreat) :: tab0
theorem tabRD_ok : TabOK Tryz.prog (tabRD colC colE) := .cons columnD_ok (.cons upperD_ok tab0_ok)
theorem roundRc (C : Int → List UInt8) (E : Int → Int) (l : List UInt8) (i : Int) : code (ent (R := Ex × PState) Tryz.prog (tabRD C E) nolv 64 18446744073709551616 30) Tryz.prog {} 0 64 18446744073709551616 ((loopBodies (bodyOf Tryz.f12)).headD .skip) (stRc l i) (endK 0 64 (fun n => hasN [0, 4] n) (fun n => hasN [2, 3] n)) =
    bcond (decide (i ≤ 51)) (bcond (inI i) (bcond (decide (l.length ≤ 1000000)) (bcond (C i == l.map upB) (some (.ret, finRc i)) (some (.normal, stRc l (swA i)))) none) none) (some (.exit 0, finRx)) := by kernel_rfl
def resRc (o : Option Nat) : Ex × PState := match o with | some n => (.ret, finRc (n : Int)) | none => (.exit 0, finRx)
theorem loopRc (l : List UInt8) (hl : l.length ≤ 1000000) : Tri Tryz.prog (.loop ((loopBodies (bodyOf Tryz.f12)).headD .skip)) (stRc l 0).toA (resRc (fdR (l.map upB) 52 0)).1 (resRc (fdR (l.map upB) 52 0)).2.toA 0 := by
  have key := loop_rounds (ι := { q : Nat × Nat // q.1 + q.2 = 52 }) (ent_sound (NF := 64) (m := 18446744073709551616) tabRD_ok host nolv_ok 30) (x := (loopBodies (bodyOf Tryz.f12)).headD .skip) (K := 0) (lv := {}) (NF := 64) (m := 18446744073709551616) (fun x hx id e h1 h2 => by cases h2) (fun n => hasN [0, 4] n) (fun n => hasN [2, 3] n) (fun q => stRc l (q.1.2 : Int)) (fun q => q.1.1) (fun q => resRc (fdR (l.map upB) q.1.1 q.1.2)) ?_ (fun q => by
      unfold resRc; cases fdR (l.map upB) q.1.1 q.1.2 <;> simp) ⟨(52, 0), rfl⟩
  · exact key
  rintro ⟨⟨f, n⟩, h⟩
  simp only at h ⊢
  rw [roundRc]
  cases f with
  | zero =>
    rw [bcF (b := decide ((n : Int) ≤ 51)) (decide_eq_false (by omega))]
    exact .inr rfl
  | succ f =>
    have hC : colC (n : Int) = colS n := by unfold colC; rw [show colB (n : Int) = true from decide_eq_true (by omega), Int.toNat_natCast]; rfl
    have hw : swA (n : Int) = ((n + 1 : Nat) : Int) := by unfold swA; rw [i64_in (by omega) (by omega)]; rfl
    rw [bcT (b := decide ((n : Int) ≤ 51)) (decide_eq_true (by omega)), bcT (b := inI n) (inI_iff.2 (by omega)), bcT (b := decide (l.length ≤ 1000000)) (decide_eq_true hl), hC, hw]
    simp only [fdR]
    cases h1 : colS n == l.map upB with
    | true => exact .inr rfl
    | false => exact .inl ⟨⟨(f, n + 1), by simp only; omega⟩, by simp, rfl, rfl⟩
def eRcL : Nat → PState → LAns := fun K t => match K, t with
  | 0, ⟨some (.str l) :: none :: none :: none :: some (.int .i64 i) :: rs, rm⟩ =>
    .chk (nonesV 19 rs) (.chk (nonesB 64 rm) (.chk (decide (i = 0 ∧ l.length ≤ 1000000)) (.br (fdR (l.map upB) 52 0).isSome (.out .ret (finRc (((fdR (l.map upB) 52 0).getD 0 : Nat) : Int))) (.out (.exit 0) finRx))))
  | _, _ => .fail
def lvRc : FuncId → Lv := fun f => match f with
  | 12 => { keep := fun _ => some [0, 4], ent := fun i => match i with | 4 => some eRcL | _ => none }
  | _ => {}
theorem lvRc_ok : LvOK Tryz.prog lvRc := by
  intro f fn body hf hb K x hx id e hid he t
  by_cases h : f = 12
  · subst h
    obtain rfl : fn = Tryz.f12 := (Option.some.inj (Tryz.func12.symm.trans hf)).symm
    have hbody : body = bodyOf Tryz.f12 := by unfold bodyOf; rw [hb]; rfl
    subst hbody
    have h1 : loopBodies (bodyOf Tryz.f12) = [(loopBodies (bodyOf Tryz.f12)).headD .skip] := by kernel_rfl
    rw [h1] at hx
    have hx' := List.mem_singleton.1 hx
    have h2 : id = 4 := by
      have h3 : headReg ((loopBodies (bodyOf Tryz.f12)).headD .skip) = some 4 := by kernel_rfl
      rw [hx', h3] at hid; exact (Option.some.inj hid).symm
    subst h2
    have he' : eRcL = e := Option.some.inj he
    subst he'
    rw [hx']
    clear hx hx' hid he hb hf h1
    unfold eRcL
    split
    · rename_i l i rs rm
      refine ⟨fun g1 => ⟨fun g2 => ⟨fun g3 => ?_, fun _ => trivial⟩, fun _ => trivial⟩, fun _ => trivial⟩
      obtain ⟨k1, k2⟩ := of_decide_eq_true g3
      subst k1
      rw [nonesV_eq _ _ g1, nonesB_eq _ _ g2]
      have := loopRc l k2
      cases ho : fdR (l.map upB) 52 0 with
      | none => rw [ho] at this; exact ⟨fun hc => (by cases hc), fun _ => this⟩
      | some n => rw [ho] at this; exact ⟨fun _ => this, fun hc => (by cases hc)⟩
    · trivial
  · exfalso
    have : (lvRc f).ent id = none := by
      unfold lvRc
      split
      · exact absurd rfl h
      · rfl
    rw [this] at he; cases he
def rcD (l : List UInt8) : Int × Int := bcond (decide ((l.length : Int) > 2)) (0, 20) (bcond (fdR (l.map upB) 52 0).isSome ((((fdR (l.map upB) 52 0).getD 0 : Nat) : Int), 0) (0, 20))
def eRDg : Ent := fun args pre => match args, pre with
  | [.str l], [] => .chk (decide (l.length ≤ 1000000)) (.ret (.tuple [.int .i64 (rcD l).1, .int .i64 (rcD l).2]) [])
  | _, _ => .fail
theorem readColD_ok : EntOK Tryz.prog 12 eRDg := fun args pre => by
  unfold eRDg
  split
  · rename_i l
    have e : Comes (tabRD colC colE) lvRc 12 [.str l] [] (.br (decide ((l.length : Int) > 2)) (.ret (.tuple [.int .i64 0, .int .i64 20]) []) (.chk (decide ((0 : Int) = 0 ∧ l.length ≤ 1000000)) (.br (fdR (l.map upB) 52 0).isSome (.ret (.tuple [.int .i64 (((fdR (l.map upB) 52 0).getD 0 : Nat) : Int), .int .i64 0]) []) (.ret (.tuple [.int .i64 0, .int .i64 20]) [])))) := by unfold Comes; kernel_rfl
    refine of_run (ans_comes tabRD_ok e lvRc_ok) fun r h => ?_
    obtain ⟨h1, h⟩ := chk_run h
    have hl := of_decide_eq_true h1
    rw [← h]
    simp only [Ans.run, Ans.chk]
    unfold rcD
    cases decide ((l.length : Int) > 2) with
    | true => rfl
    | false =>
      rw [bcF rfl, bcT (b := decide (_ ∧ _)) (by rw [decide_eq_true_eq]; exact ⟨trivial, hl⟩)]
      cases (fdR (l.map upB) 52 0).isSome <;> rfl
  · trivial

/-! ### Digits -/
theorem digit_0 : (List.range 50).map (fun n : Nat => ent (R := AV × List PObj) Tryz.prog tab0 nolv 64 18446744073709551616 30 28 [.int .i64 ((1 + n : Nat) : Int)] [] pure2) = (List.range 50).map (fun n : Nat => some (.str (rowS (1 + n)), [])) := by kernel_rfl
theorem digit_1 : (List.range 50).map (fun n : Nat => ent (R := AV × List PObj) Tryz.prog tab0 nolv 64 18446744073709551616 30 28 [.int .i64 ((51 + n : Nat) : Int)] [] pure2) = (List.range 50).map (fun n : Nat => some (.str (rowS (51 + n)), [])) := by kernel_rfl
theorem digit_2 : (List.range 50).map (fun n : Nat => ent (R := AV × List PObj) Tryz.prog tab0 nolv 64 18446744073709551616 30 28 [.int .i64 ((101 + n : Nat) : Int)] [] pure2) = (List.range 50).map (fun n : Nat => some (.str (rowS (101 + n)), [])) := by kernel_rfl
theorem digit_3 : (List.range 50).map (fun n : Nat => ent (R := AV × List PObj) Tryz.prog tab0 nolv 64 18446744073709551616 30 28 [.int .i64 ((151 + n : Nat) : Int)] [] pure2) = (List.range 50).map (fun n : Nat => some (.str (rowS (151 + n)), [])) := by kernel_rfl
theorem of_chunk50 {f g : Nat → Option (AV × List PObj)} (h : (List.range 50).map f = (List.range 50).map g) {n : Nat} (hn : n < 50) : f n = g n := by
  have := congrArg (fun l => l[n]?) h
  simpa [hn] using this
theorem digits_all (n : Nat) (h1 : 1 ≤ n) (h2 : n ≤ 200) : ent (R := AV × List PObj) Tryz.prog tab0 nolv 64 18446744073709551616 30 28 [.int .i64 (n : Int)] [] pure2 = some (.str (rowS n), []) := by
  obtain ⟨c, k, hk, hc, rfl⟩ : ∃ c k, k < 50 ∧ c < 4 ∧ n = 50 * c + 1 + k := ⟨(n - 1) / 50, (n - 1) % 50, Nat.mod_lt _ (by decide), by omega, by omega⟩
  match c, hc with
  | 0, _ => exact of_chunk50 digit_0 hk
  | 1, _ => exact of_chunk50 digit_1 hk
  | 2, _ => exact of_chunk50 digit_2 hk
  | 3, _ => exact of_chunk50 digit_3 hk
  | c + 4, hc => omega
theorem digitsD_ok : EntOK Tryz.prog 28 eItoa := fun args pre => by
  unfold eItoa
  split
  · rename_i n
    refine ⟨fun hb => ?_, fun _ => trivial⟩
    have hn := of_decide_eq_true hb
    have := digits_all n.toNat (by omega) (by omega)
    rw [Int.toNat_of_nonneg (by omega)] at this
    exact meets_ent tab0_ok host this
  · trivial
end Go.Proofs.YtanhlbdcjonaoaaGreatDoor

/- Layer 2: apostrophes that are doubled. -/
set_option linter.unusedVariables false
set_option linter.unusedSimpArgs false
namespace Go.Proofs.YtanhlbdcjonaoaaGreatDoor
open Go Sx

def ixQ (l : List UInt8) : Int := Lib.indexByte l 39
def eIndexQ : Ent := fun args pre => match args, pre with
  | [.str l, .str [39]], [] => .ret (.int .i64 (ixQ l)) []
  | _, _ => .fail
theorem indexQ_ok : EntOK Tryz.prog 87 eIndexQ := fun args pre => by
  unfold eIndexQ
  split
  · rename_i l
    have e : Comes tab0 nolv 87 [.str l, .str [39]] [] (.br ([39] == l) (.ret (.int .i64 0) []) (.ret (.int .i64 (ixQ l)) [])) := by unfold Comes; kernel_rfl
    refine of_run (ans_comes tab0_ok e) fun x h => ?_
    rw [← h]
    simp only [Ans.run]
    cases hl : ([39] == l) with
    | false => rfl
    | true =>
      have : l = [39] := (beq_iff_eq.1 hl).symm
      subst this; rfl
  · trivial
def tabQ : Tab := (87, eIndexQ) :: tab0
theorem tabQ_ok : TabOK Tryz.prog tabQ := .cons indexQ_ok tab0_ok
def st60 (l acc : List UInt8) (m : Nat) (p n i : Int) : PState :=
  ⟨some (.str l) :: some (.str [39]) :: some (.str [39, 39]) :: (List.replicate 5 none ++ some (.str []) :: none :: some (.ptr 0 0) :: some (.int .i64 p) :: (List.replicate 40 none ++ some (.int .i64 n) :: some (.int .i64 i) :: List.replicate 50 none)),
   some (.raw (.cells [.ptr 0 0, .vec 1 m] 73)) :: some (.vecB acc 5) :: List.replicate 64 none⟩
def fin60 (l acc : List UInt8) (m : Nat) (p : Int) : PState :=
  ⟨some (.str l) :: (List.replicate 7 none ++ some (.str []) :: none :: some (.ptr 0 0) :: some (.int .i64 p) :: List.replicate 92 none),
   some (.raw (.cells [.ptr 0 0, .vec 1 m] 73)) :: some (.vecB acc 5) :: List.replicate 64 none⟩
/-- Is there room for so much more? -/
def roomB (acc : List UInt8) (m k : Nat) : Bool := true && decide ((PObj.vecB acc 5).len = m * 1) && decide (2 * (m + k) * 1 ≤ 281474976710656 ∧ 2 * (m + k) < 9223372036854775808)
def jQ (l : List UInt8) (p : Int) : Int := IntKind.i64.wrap (p + ixQ (List.take (l.length - p.toNat) (List.drop p.toNat l)))
def pcQ (l : List UInt8) (p : Int) : List UInt8 := List.take ((jQ l p).toNat - p.toNat) (List.drop p.toNat l)
theorem round60 (l acc : List UInt8) (m : Nat) (p n i : Int) : code (ent (R := Ex × PState) Tryz.prog tabQ nolv 64 18446744073709551616 30) Tryz.prog {} 0 64 18446744073709551616 ((loopBodies (bodyOf Tryz.f76)).headD .skip) (st60 l acc m p n i) (endK 0 64 (fun n => hasN [0, 1, 2, 8, 10, 11, 52, 53] n) (fun n => hasN [0, 8, 10, 11] n)) =
    bcond (decide (i < n)) (bcond (decide (0 ≤ p ∧ p.toNat ≤ l.length)) (bcond (decide (0 ≤ p ∧ 0 ≤ jQ l p ∧ p.toNat ≤ (jQ l p).toNat ∧ (jQ l p).toNat ≤ l.length)) (bcond (roomB acc m (pcQ l p).length) (bcond (roomB (acc ++ pcQ l p) (m + (pcQ l p).length) 2)
      (some (.normal, st60 l (acc ++ pcQ l p ++ [39, 39]) (m + (pcQ l p).length + 2) (IntKind.i64.wrap (jQ l p + 1)) n (IntKind.i64.wrap (i + 1)))) none) none) none) none) (some (.exit 0, fin60 l acc m p)) := by kernel_rfl
end Go.Proofs.YtanhlbdcjonaoaaGreatDoor

/- Layer 2: apostrophes that are doubled. -/
set_option linter.unusedVariables false
set_option linter.unusedSimpArgs false
namespace Go.Proofs.YtanhlbdcjonaoaaGreatDoor
open Go Sx

def dblS : List UInt8 → List UInt8
  | [] => []
  | c :: r => if c = 39 then 39 :: 39 :: dblS r else c :: dblS r
theorem dbl_none : ∀ (l : List UInt8), l.count 39 = 0 → dblS l = l
  | [], _ => rfl
  | c :: r, h => by
    rw [List.count_cons] at h
    by_cases e : c = 39
    · subst e; simp at h
    · rw [dblS, if_neg e, dbl_none r (by omega)]
theorem dbl_at : ∀ (l : List UInt8) (o : Nat), l[o]? = some 39 → (∀ k, k < o → l[k]? ≠ some 39) → dblS l = l.take o ++ 39 :: 39 :: dblS (l.drop (o + 1)) ∧ l.count 39 = (l.drop (o + 1)).count 39 + 1
  | [], o, h, _ => by simp at h
  | c :: r, 0, h, _ => by
    have hc : c = 39 := by simpa using h
    subst hc
    exact ⟨by simp [dblS], by simp⟩
  | c :: r, o + 1, h, hn => by
    have hc : c ≠ 39 := fun e => hn 0 (by omega) (by simp [e])
    obtain ⟨h1, h2⟩ := dbl_at r o (by simpa using h) (fun k hk => by have := hn (k + 1) (by omega); simpa using this)
    refine ⟨?_, ?_⟩
    · rw [dblS, if_neg hc, h1]; rfl
    · rw [List.count_cons, h2, if_neg (by simpa using hc)]; rfl
theorem ixQ_some {l : List UInt8} (h : 0 < l.count 39) : ∃ o : Nat, ixQ l = o ∧ o < l.length ∧ l[o]? = some 39 ∧ ∀ k, k < o → l[k]? ≠ some 39 := by
  have hg := Lib.indexByte_ge l 39
  by_cases e : Lib.indexByte l 39 = -1
  · exfalso
    have hn := Lib.indexByte_none e
    have : (39 : UInt8) ∈ l := List.count_pos_iff.1 h
    obtain ⟨k, hk, hk2⟩ := List.getElem_of_mem this
    exact hn k (by rw [List.getElem?_eq_getElem hk, hk2])
  · obtain ⟨o, ho⟩ : ∃ o : Nat, Lib.indexByte l 39 = o := ⟨(Lib.indexByte l 39).toNat, by omega⟩
    obtain ⟨h1, h2⟩ := Lib.indexByte_some ho
    refine ⟨o, ho, ?_, h1, h2⟩
    exact (List.getElem?_eq_some_iff.1 h1).1
/-- What so many rounds leave: what has been written, and how far that is. -/
def goQ (l : List UInt8) : Nat → List UInt8 → Nat → List UInt8 × Nat
  | 0, acc, p => (acc, p)
  | k + 1, acc, p => goQ l k (acc ++ (l.drop p).take (ixQ (l.drop p)).toNat ++ [39, 39]) (p + (ixQ (l.drop p)).toNat + 1)
theorem goQ_end (l : List UInt8) : ∀ (k : Nat) (acc : List UInt8) (p : Nat), p ≤ l.length → (l.drop p).count 39 = k → (goQ l k acc p).1 ++ l.drop (goQ l k acc p).2 = acc ++ dblS (l.drop p) ∧ (goQ l k acc p).2 ≤ l.length ∧ (goQ l k acc p).1.length + 2 * (l.length - (goQ l k acc p).2) ≤ acc.length + 2 * (l.length - p)
  | 0, acc, p, hp, hc => ⟨by rw [goQ, dbl_none _ hc], hp, Nat.le_refl _⟩
  | k + 1, acc, p, hp, hc => by
    obtain ⟨o, ho, hl, h1, h2⟩ := ixQ_some (l := l.drop p) (by omega)
    obtain ⟨d1, d2⟩ := dbl_at _ o h1 h2
    rw [List.drop_drop] at d1 d2
    rw [List.length_drop] at hl
    rw [goQ, ho, Int.toNat_natCast]
    have := goQ_end l k (acc ++ (l.drop p).take o ++ [39, 39]) (p + o + 1) (by omega) (by rw [Nat.add_assoc]; omega)
    refine ⟨?_, this.2.1, ?_⟩
    · rw [this.1, d1]; simp [Nat.add_assoc]
    · have h3 := this.2.2
      simp only [List.length_append, List.length_take, List.length_drop, List.length_cons, List.length_nil] at h3
      omega

theorem loop60 (l : List UInt8) (hl : l.length ≤ 1000000) :
    Tri Tryz.prog (.loop ((loopBodies (bodyOf Tryz.f76)).headD .skip)) (st60 l [] 0 0 ((l.count 39 : Nat) : Int) 0).toA (.exit 0) (fin60 l (goQ l (l.count 39) [] 0).1 (goQ l (l.count 39) [] 0).1.length ((goQ l (l.count 39) [] 0).2 : Int)).toA 0 := by
  have main := loop_rounds (ι := { q : Nat × List UInt8 × Nat // q.2.2 ≤ l.length ∧ (l.drop q.2.2).count 39 = q.1 ∧ q.2.1.length + 2 * (l.length - q.2.2) ≤ 2 * l.length ∧ q.1 ≤ l.count 39 }) (ent_sound (NF := 64) (m := 18446744073709551616) tabQ_ok host nolv_ok 30) (lv := {}) (K := 0) (NF := 64) (m := 18446744073709551616) (x := (loopBodies (bodyOf Tryz.f76)).headD .skip) (fun x hx id e h1 h2 => by cases h2) (fun n => hasN [0, 1, 2, 8, 10, 11, 52, 53] n) (fun n => hasN [0, 8, 10, 11] n)
    (fun q => st60 l q.1.2.1 q.1.2.1.length (q.1.2.2 : Int) ((l.count 39 : Nat) : Int) (((l.count 39 : Nat) : Int) - (q.1.1 : Int))) (fun q => q.1.1) (fun q => (.exit 0, fin60 l (goQ l q.1.1 q.1.2.1 q.1.2.2).1 (goQ l q.1.1 q.1.2.1 q.1.2.2).1.length ((goQ l q.1.1 q.1.2.1 q.1.2.2).2 : Int))) ?_ (fun q => by simp) ⟨(l.count 39, [], 0), by simp⟩
  · have e : ((l.count 39 : Nat) : Int) - ((l.count 39 : Nat) : Int) = 0 := by omega
    simp only [e] at main
    exact main
  rintro ⟨⟨k, acc, p⟩, hp, hc, hb, hk⟩
  simp only at hp hc hb hk ⊢
  have hcl : l.count 39 ≤ l.length := List.count_le_length
  rw [round60]
  cases k with
  | zero =>
    refine .inr ?_
    rw [bcF (b := decide (((l.count 39 : Nat) : Int) - ((0 : Nat) : Int) < ((l.count 39 : Nat) : Int))) (decide_eq_false (by omega))]
    rfl
  | succ k =>
    obtain ⟨o, ho, hlo, h1, h2⟩ := ixQ_some (l := l.drop p) (by omega)
    obtain ⟨d1, d2⟩ := dbl_at _ o h1 h2
    rw [List.drop_drop] at d1 d2
    rw [List.length_drop] at hlo
    have htake : List.take (l.length - p) (List.drop p l) = List.drop p l := List.take_of_length_le (by rw [List.length_drop]; exact Nat.le_refl _)
    have hj : jQ l (p : Int) = ((p + o : Nat) : Int) := by
      unfold jQ
      rw [Int.toNat_natCast, htake, ho, i64_in (by omega) (by omega)]; push_cast; rfl
    have hq : pcQ l (p : Int) = (l.drop p).take o := by
      unfold pcQ
      rw [hj, Int.toNat_natCast, Int.toNat_natCast, show p + o - p = o by omega]
    have hql : (pcQ l (p : Int)).length = o := by rw [hq, List.length_take, List.length_drop]; omega
    have room : ∀ (a : List UInt8) (m k : Nat), a.length = m → 2 * (m + k) ≤ 281474976710656 → roomB a m k = true := fun a m k h1 h2 => by
      unfold roomB
      rw [Bool.true_and, Bool.and_eq_true, decide_eq_true_eq, decide_eq_true_eq]
      exact ⟨by show a.length = m * 1; omega, by omega⟩
    rw [bcT (b := decide (_ < _)) (decide_eq_true (by omega)), bcT (b := decide (0 ≤ (p : Int) ∧ _)) (decide_eq_true (by omega)), hj, bcT (b := decide (0 ≤ (p : Int) ∧ _)) (decide_eq_true (by omega)),
      bcT (b := roomB acc acc.length (pcQ l (p : Int)).length) (room _ _ _ rfl (by omega)), bcT (b := roomB (acc ++ pcQ l (p : Int)) (acc.length + (pcQ l (p : Int)).length) 2) (room _ _ _ (by simp) (by omega))]
    refine .inl ⟨⟨(k, acc ++ (l.drop p).take o ++ [39, 39], p + o + 1), by simp only; omega, by simp only; rw [Nat.add_assoc]; omega, ?_, by simp only; omega⟩, by simp, ?_, ?_⟩
    · simp only [List.length_append, List.length_take, List.length_drop, List.length_cons, List.length_nil]
      omega
    · simp only [goQ, ho, Int.toNat_natCast]
    · have e1 : IntKind.i64.wrap (((p + o : Nat) : Int) + 1) = ((p + o + 1 : Nat) : Int) := by rw [i64_in (by omega) (by omega)]; push_cast; rfl
      have e2 : IntKind.i64.wrap (((l.count 39 : Nat) : Int) - ((k + 1 : Nat) : Int) + 1) = ((l.count 39 : Nat) : Int) - (k : Int) := by rw [i64_in (by omega) (by omega)]; push_cast; omega
      rw [e1, e2, hq]
      have e3 : acc.length + ((l.drop p).take o).length + 2 = (acc ++ (l.drop p).take o ++ [39, 39]).length := by simp [Nat.add_assoc]
      rw [e3]

def dropN : Nat → List (Option AV) → Option (List (Option AV))
  | 0, r => some r
  | n + 1, none :: r => dropN n r
  | _, _ => none
theorem dropN_eq : ∀ (n : Nat) (l r : List (Option AV)), dropN n l = some r → l = List.replicate n none ++ r
  | 0, l, r, h => by cases h; rfl
  | n + 1, [], r, h => by cases h
  | n + 1, none :: l, r, h => by rw [dropN_eq n l r h]; rfl
  | n + 1, some _ :: l, r, h => by cases h
def onlyN : Nat → List (Option AV) → Bool
  | 0, [] => true
  | n + 1, none :: r => onlyN n r
  | _, _ => false
theorem onlyN_eq : ∀ (n : Nat) (l : List (Option AV)), onlyN n l = true → l = List.replicate n none
  | 0, [], _ => rfl
  | 0, _ :: _, h => by cases h
  | n + 1, [], h => by cases h
  | n + 1, none :: r, h => by rw [List.replicate_succ, ← onlyN_eq n r h]
  | n + 1, some _ :: r, h => by cases h
def e60 : Nat → PState → LAns := fun K t => match K, t with
  | 0, ⟨some (.str l) :: some (.str [39]) :: some (.str [39, 39]) :: none :: none :: none :: none :: none :: some (.str []) :: none :: some (.ptr 0 0) :: some (.int .i64 p) :: r, some (.raw (.cells [.ptr 0 0, .vec 1 0] 73)) :: some (.vecB [] 5) :: rm⟩ => match dropN 40 r with
    | some (some (.int .i64 n) :: some (.int .i64 i) :: r2) =>
      .chk (onlyN 50 r2) (.chk (nonesB 64 rm) (.chk (decide (p = 0 ∧ i = 0 ∧ n = ((l.count 39 : Nat) : Int) ∧ l.length ≤ 1000000)) (.out (.exit 0) (fin60 l (goQ l (l.count 39) [] 0).1 (goQ l (l.count 39) [] 0).1.length ((goQ l (l.count 39) [] 0).2 : Int)))))
    | _ => .fail
  | _, _ => .fail
def lv60 : FuncId → Lv := fun f => match f with
  | 76 => { keep := fun i => if i = 13 then some [0, 1, 2, 8, 10, 11, 52, 53] else none, ent := fun i => match i with | 13 => some e60 | _ => none }
  | _ => {}
end Go.Proofs.YtanhlbdcjonaoaaGreatDoor

/- Layer 2: names between apostrophes. -/
set_option linter.unusedVariables false
set_option linter.unusedSimpArgs false
namespace Go.Proofs.YtanhlbdcjonaoaaGreatDoor
open Go Sx

theorem lv60_ok : LvOK Tryz.prog lv60 := by
  intro f fn body hf hb K x hx id e hid he t
  by_cases h : f = 76
  · subst h
    obtain rfl : fn = Tryz.f76 := (Option.some.inj (Tryz.func76.symm.trans hf)).symm
    have hbody : body = bodyOf Tryz.f76 := by unfold bodyOf; rw [hb]; rfl
    subst hbody
    have hid' : id = 13 := by
      by_cases e13 : id = 13
      · exact e13
      · exfalso
        have : (lv60 76).ent id = none := by
          show (match id with | 13 => some e60 | _ => none) = none
          split
          · exact absurd rfl e13
          · rfl
        rw [this] at he; cases he
    subst hid'
    have h1 : (loopBodies (bodyOf Tryz.f76)).all (fun c => !(headReg c == some 13) || true) = true := by kernel_rfl
    have hx' : x = (loopBodies (bodyOf Tryz.f76)).headD .skip := by
      have hh : ∃ a b, loopBodies (bodyOf Tryz.f76) = (loopBodies (bodyOf Tryz.f76)).headD .skip :: b ∧ a = b ∧ (b.all fun c => !(headReg c == some 13)) = true := ⟨(loopBodies (bodyOf Tryz.f76)).tail, (loopBodies (bodyOf Tryz.f76)).tail, by kernel_rfl, rfl, by kernel_rfl⟩
      obtain ⟨a, b, hh, _, hb2⟩ := hh
      rw [hh] at hx
      rcases List.mem_cons.1 hx with hx | hx
      · exact hx
      · have := List.all_eq_true.1 hb2 x hx
        rw [hid] at this; simp at this
    have he' : e60 = e := Option.some.inj he
    subst he'
    rw [hx']
    clear hx hx' hid he hb hf h1
    unfold e60
    split
    · rename_i l p r rm
      split
      · rename_i n i r2 hd
        refine ⟨fun g1 => ⟨fun g2 => ⟨fun g3 => ?_, fun _ => trivial⟩, fun _ => trivial⟩, fun _ => trivial⟩
        obtain ⟨rfl, rfl, rfl, hl⟩ := of_decide_eq_true g3
        have hr := dropN_eq _ _ _ hd
        rw [hr, onlyN_eq _ _ g1, nonesB_eq _ _ g2]
        exact loop60 l hl
      · trivial
    · trivial
  · exfalso
    have : (lv60 f).ent id = none := by
      unfold lv60
      split
      · exact absurd rfl h
      · rfl
    rw [this] at he; cases he

def eRepl : Ent := fun args pre => match args, pre with
  | [.str l, .str [39], .str [39, 39], .int .i64 (-1)], [] => .chk (decide (l.length ≤ 1000000)) (.ret (.str (dblS l)) [])
  | _, _ => .fail
def endA (l : List UInt8) : List UInt8 := (goQ l (l.count 39) [] 0).1
def endP (l : List UInt8) : Nat := (goQ l (l.count 39) [] 0).2
def endR (l : List UInt8) : List UInt8 := List.take (l.length - ((endP l : Nat) : Int).toNat) (List.drop ((endP l : Nat) : Int).toNat l)
def needT (l : List UInt8) : Int := IntKind.i64.wrap ((l.length : Int) + IntKind.i64.wrap (((l.count 39 : Nat) : Int) * IntKind.i64.wrap (((2 : Nat) : Int) - ((1 : Nat) : Int))))
theorem repl_ok : EntOK Tryz.prog 76 eRepl := fun args pre => by
  unfold eRepl
  split
  · rename_i l
    have e : Comes tabQ lv60 76 [.str l, .str [39], .str [39, 39], .int .i64 (-1)] []
      (.br (((l.count 39 : Nat) : Int) == 0) (.ret (.str l) []) (.br (decide (needT l < 0)) .fail (.br (decide (IntKind.i64.wrap (0 - 0) < needT l)) (.br (decide (0 ≤ IntKind.i64.wrap (IntKind.i64.wrap (2 * 0) + needT l) ∧ IntKind.i64.wrap (IntKind.i64.wrap (2 * 0) + needT l) ≤ 281474976710656))
        (.br (decide ((0 : Int) = 0 ∧ (0 : Int) = 0 ∧ ((l.count 39 : Nat) : Int) = ((l.count 39 : Nat) : Int) ∧ l.length ≤ 1000000)) (.br (decide (0 ≤ ((endP l : Nat) : Int) ∧ ((endP l : Nat) : Int).toNat ≤ l.length)) (.br (roomB (endA l) (endA l).length (endR l).length)
          (.br (decide (0 < (endA l ++ endR l).length)) (.br ((((endA l).length + (endR l).length : Nat) : Int) == ((endA l ++ endR l).length : Int) && !(endA l ++ endR l).isEmpty && decide ((endA l ++ endR l).length < 9223372036854775808)) (.ret (.str (endA l ++ endR l)) []) .fail) .fail) .fail) .fail) .fail) .fail) .fail))) := by unfold Comes; kernel_rfl
    refine of_run (ans_comes tabQ_ok e lv60_ok) fun x h => ?_
    obtain ⟨hl, h⟩ := chk_run h
    have hl := of_decide_eq_true hl
    rw [← h]
    simp only [Ans.run]
    by_cases h0 : l.count 39 = 0
    · rw [bcT (b := ((l.count 39 : Nat) : Int) == 0) (by rw [h0]; rfl), dbl_none _ h0]
    · have hcl : l.count 39 ≤ l.length := List.count_le_length
      have hg := goQ_end l (l.count 39) [] 0 (Nat.zero_le _) rfl
      have hP : endP l ≤ l.length := hg.2.1
      have hA : (endA l).length ≤ 2 * l.length := by have := hg.2.2; simp only [List.length_nil] at this; unfold endA; omega
      have hR : endR l = l.drop (endP l) := by
        unfold endR; rw [Int.toNat_natCast]; exact List.take_of_length_le (by rw [List.length_drop]; exact Nat.le_refl _)
      have hD : endA l ++ endR l = dblS l := by rw [hR]; have := hg.1; rw [List.nil_append, List.drop_zero] at this; exact this
      have hn : needT l = ((l.length + l.count 39 : Nat) : Int) := by
        unfold needT
        rw [i64_in (n := ((2 : Nat) : Int) - ((1 : Nat) : Int)) (by omega) (by omega), show ((l.count 39 : Nat) : Int) * (((2 : Nat) : Int) - ((1 : Nat) : Int)) = ((l.count 39 : Nat) : Int) by omega, i64_in (n := ((l.count 39 : Nat) : Int)) (by omega) (by omega), i64_in (by omega) (by omega)]
        push_cast; rfl
      have w0 : IntKind.i64.wrap (0 - 0) = 0 := rfl
      have w1 : IntKind.i64.wrap (IntKind.i64.wrap (2 * 0) + needT l) = needT l := by
        rw [show IntKind.i64.wrap (2 * 0) = 0 from rfl, Int.zero_add, hn, i64_in (by omega) (by omega)]
      have hlen : (endA l ++ endR l).length = (endA l).length + (endR l).length := List.length_append
      have hRl : (endR l).length ≤ l.length := by rw [hR, List.length_drop]; omega
      have hpos : 0 < (endA l ++ endR l).length := by
        rw [hD]
        have : l ≠ [] := fun e => by rw [e] at h0; simp at h0
        cases l with
        | nil => exact absurd rfl this
        | cons c r => unfold dblS; split <;> simp
      have hne : (endA l ++ endR l).isEmpty = false := by
        cases hh : (endA l ++ endR l) with
        | nil => rw [hh] at hpos; simp at hpos
        | cons a b => rfl
      rw [bcF (b := ((l.count 39 : Nat) : Int) == 0) (beq_eq_false_iff_ne.2 (by omega)), w0, w1, hn, bcF (b := decide (((l.length + l.count 39 : Nat) : Int) < 0)) (decide_eq_false (by omega)),
        bcT (b := decide (0 < ((l.length + l.count 39 : Nat) : Int))) (decide_eq_true (by omega)), bcT (b := decide (0 ≤ ((l.length + l.count 39 : Nat) : Int) ∧ _)) (decide_eq_true (by omega)),
        bcT (b := decide (True ∧ _)) (decide_eq_true ⟨trivial, trivial, trivial, hl⟩), bcT (b := decide (0 ≤ ((endP l : Nat) : Int) ∧ _)) (decide_eq_true (by omega)),
        bcT (b := roomB (endA l) (endA l).length (endR l).length) (by
          unfold roomB
          rw [Bool.true_and, Bool.and_eq_true, decide_eq_true_eq, decide_eq_true_eq]
          exact ⟨by show (endA l).length = (endA l).length * 1; omega, by omega⟩),
        bcT (b := decide (0 < (endA l ++ endR l).length)) (decide_eq_true hpos), bcT (b := _ && _ && _) (by rw [hne, hlen, beq_self_eq_true, decide_eq_true (by omega)]; rfl), hD]
  · trivial
end Go.Proofs.YtanhlbdcjonaoaaGreatDoor

/- Layer 2: names as they are written. -/
set_option linter.unusedVariables false
set_option linter.unusedSimpArgs false
namespace Go.Proofs.YtanhlbdcjonaoaaGreatDoor
open Go Sx
def tabR : Tab := (76, eRepl) :: (58, ePlain) :: tab0
theorem tabR_ok : TabOK Tryz.prog tabR := .cons repl_ok (.cons plain_ok tab0_ok)
end Go.Proofs.YtanhlbdcjonaoaaGreatDoor

/- Layer 2: texts that are built. -/
set_option linter.unusedVariables false
set_option linter.unusedSimpArgs false
namespace Go.Proofs.YtanhlbdcjonaoaaGreatDoor
open Go Sx

def bNew : PObj := .raw (.cells [.nilptr, .nilslice] 73)
def bOn (k m : Nat) : PObj := .raw (.cells [.ptr 0 0, .vec k m] 73)
theorem room_ok {a : List UInt8} {m k : Nat} (h1 : a.length = m) (h2 : m + k ≤ 1000000) : roomB a m k = true := by
  unfold roomB
  rw [Bool.true_and, Bool.and_eq_true, decide_eq_true_eq, decide_eq_true_eq]
  exact ⟨by show a.length = m * 1; omega, by omega⟩
def eWS : Ent := fun args pre => match args, pre with
  | [.ptr 0 0, .str x], [.raw (.cells [.nilptr, .nilslice] 73)] => .chk (decide (0 < x.length ∧ x.length ≤ 1000000)) (.ret (.tuple [.int .i64 (x.length : Int), .niliface]) [bOn 1 x.length, .vecB x 5])
  | [.ptr 0 0, .str x], [.raw (.cells [.ptr 0 0, .vec 1 m] 73), .vecB acc 5] => .chk (decide (acc.length = m ∧ m + x.length ≤ 1000000)) (.ret (.tuple [.int .i64 (x.length : Int), .niliface]) [bOn 2 (m + x.length), .raw .dead, .vecB (acc ++ x) 5])
  | _, _ => .fail
theorem ws_ok : EntOK Tryz.prog 42 eWS := fun args pre => by
  unfold eWS
  split
  · rename_i x
    have e : Comes tab0 nolv 42 [.ptr 0 0, .str x] [bNew] (.br (decide (0 < x.length)) (.br (true && decide (2 * x.length * 1 ≤ 281474976710656 ∧ 2 * x.length < 9223372036854775808)) (.ret (.tuple [.int .i64 (x.length : Int), .niliface]) [bOn 1 x.length, .vecB x 5]) .fail)
      (.ret (.tuple [.int .i64 (x.length : Int), .niliface]) [.raw (.cells [.ptr 0 0, .nilslice] 73)])) := by unfold Comes; kernel_rfl
    refine of_run (ans_comes tab0_ok e) fun r h => ?_
    obtain ⟨h1, h⟩ := chk_run h
    have h1 := of_decide_eq_true h1
    rw [← h]
    simp only [Ans.run]
    rw [bcT (b := decide (0 < x.length)) (decide_eq_true h1.1), bcT (b := true && _) (by rw [Bool.true_and, decide_eq_true_eq]; omega)]
  · rename_i x m acc
    have e : Comes tab0 nolv 42 [.ptr 0 0, .str x] [bOn 1 m, .vecB acc 5] (.br (roomB acc m x.length) (.ret (.tuple [.int .i64 (x.length : Int), .niliface]) [bOn 2 (m + x.length), .raw .dead, .vecB (acc ++ x) 5]) .fail) := by unfold Comes; kernel_rfl
    refine of_run (ans_comes tab0_ok e) fun r h => ?_
    obtain ⟨h1, h⟩ := chk_run h
    have h1 := of_decide_eq_true h1
    rw [← h]
    simp only [Ans.run]
    rw [bcT (b := roomB acc m x.length) (room_ok h1.1 h1.2)]
  · trivial
def eWB : Ent := fun args pre => match args, pre with
  | [.ptr 0 0, .int .u8 36], [.raw (.cells [.nilptr, .nilslice] 73)] => .ret .niliface [bOn 1 1, .vecB [36] 5]
  | [.ptr 0 0, .int .u8 36], [.raw (.cells [.ptr 0 0, .vec 1 m] 73), .vecB acc 5] => .chk (decide (acc.length = m ∧ m + 1 ≤ 1000000)) (.ret .niliface [bOn 2 (m + 1), .raw .dead, .vecB (acc ++ [36]) 5])
  | [.ptr 0 0, .int .u8 33], [.raw (.cells [.ptr 0 0, .vec 1 m] 73), .vecB acc 5] => .chk (decide (acc.length = m ∧ m + 1 ≤ 1000000)) (.ret .niliface [bOn 2 (m + 1), .raw .dead, .vecB (acc ++ [33]) 5])
  | _, _ => .fail
theorem wb_ok : EntOK Tryz.prog 44 eWB := fun args pre => by
  unfold eWB
  split
  · have e : Comes tab0 nolv 44 [.ptr 0 0, .int .u8 36] [bNew] (.ret .niliface [bOn 1 1, .vecB [36] 5]) := by unfold Comes; kernel_rfl
    exact of_run (ans_comes tab0_ok e) fun r h => h
  · rename_i m acc
    have e : Comes tab0 nolv 44 [.ptr 0 0, .int .u8 36] [bOn 1 m, .vecB acc 5] (.br (roomB acc m 1) (.ret .niliface [bOn 2 (m + 1), .raw .dead, .vecB (acc ++ [36]) 5]) .fail) := by unfold Comes; kernel_rfl
    refine of_run (ans_comes tab0_ok e) fun r h => ?_
    obtain ⟨h1, h⟩ := chk_run h
    have h1 := of_decide_eq_true h1
    rw [← h]
    simp only [Ans.run]
    rw [bcT (b := roomB acc m 1) (room_ok h1.1 h1.2)]
  · rename_i m acc
    have e : Comes tab0 nolv 44 [.ptr 0 0, .int .u8 33] [bOn 1 m, .vecB acc 5] (.br (roomB acc m 1) (.ret .niliface [bOn 2 (m + 1), .raw .dead, .vecB (acc ++ [33]) 5]) .fail) := by unfold Comes; kernel_rfl
    refine of_run (ans_comes tab0_ok e) fun r h => ?_
    obtain ⟨h1, h⟩ := chk_run h
    have h1 := of_decide_eq_true h1
    rw [← h]
    simp only [Ans.run]
    rw [bcT (b := roomB acc m 1) (room_ok h1.1 h1.2)]
  · trivial
def eBS : Ent := fun args pre => match args, pre with
  | [.ptr 0 0], [.raw (.cells [.ptr 0 0, .vec 1 m] 73), .vecB acc 5] => .chk (decide (0 < acc.length ∧ acc.length = m ∧ m ≤ 1000000)) (.ret (.str acc) [bOn 1 m, .shutB acc 5])
  | [.ptr 0 0], [.raw (.cells [.ptr 0 0, .vec 1 m] 73), .shutB acc 5] => .chk (decide (0 < acc.length ∧ acc.length = m ∧ m ≤ 1000000)) (.ret (.str acc) [bOn 1 m, .shutB acc 5])
  | _, _ => .fail
theorem bs_ok : EntOK Tryz.prog 47 eBS := fun args pre => by
  unfold eBS
  split
  · rename_i m acc
    have e : Comes tab0 nolv 47 [.ptr 0 0] [bOn 1 m, .vecB acc 5] (.br (decide (0 < acc.length)) (.br (((m : Int) == (acc.length : Int)) && !acc.isEmpty && decide (acc.length < 9223372036854775808)) (.ret (.str acc) [bOn 1 m, .shutB acc 5]) .fail) .fail) := by unfold Comes; kernel_rfl
    refine of_run (ans_comes tab0_ok e) fun r h => ?_
    obtain ⟨h1, h⟩ := chk_run h
    obtain ⟨h1, h2, h3⟩ := of_decide_eq_true h1
    rw [← h]
    simp only [Ans.run]
    have hne : acc.isEmpty = false := by cases acc with | nil => simp at h1 | cons a b => rfl
    rw [bcT (b := decide (0 < acc.length)) (decide_eq_true h1), bcT (b := _ && _ && _) (by rw [hne, h2, beq_self_eq_true, decide_eq_true (by omega)]; rfl)]
  · rename_i m acc
    have e : Comes tab0 nolv 47 [.ptr 0 0] [bOn 1 m, .shutB acc 5] (.br (decide (0 < acc.length)) (.br (((m : Int) == (acc.length : Int)) && !acc.isEmpty && decide (acc.length < 9223372036854775808)) (.ret (.str acc) [bOn 1 m, .shutB acc 5]) .fail) .fail) := by unfold Comes; kernel_rfl
    refine of_run (ans_comes tab0_ok e) fun r h => ?_
    obtain ⟨h1, h⟩ := chk_run h
    obtain ⟨h1, h2, h3⟩ := of_decide_eq_true h1
    rw [← h]
    simp only [Ans.run]
    have hne : acc.isEmpty = false := by cases acc with | nil => simp at h1 | cons a b => rfl
    rw [bcT (b := decide (0 < acc.length)) (decide_eq_true h1), bcT (b := _ && _ && _) (by rw [hne, h2, beq_self_eq_true, decide_eq_true (by omega)]; rfl)]
  · trivial
/-- A name as it is written. -/
def wriS (l : List UInt8) : List UInt8 := bcond (plainF l l.length 0) l ([39] ++ dblS l ++ [39])
def eWritten : Ent := fun args pre => match args, pre with
  | [.str l], [] => .chk (decide (l.length ≤ 1000000)) (.ret (.str (wriS l)) [])
  | _, _ => .fail
theorem dbl_len : ∀ (l : List UInt8), (dblS l).length ≤ 2 * l.length
  | [] => Nat.le_refl _
  | c :: r => by
    have := dbl_len r
    unfold dblS
    split <;> simp only [List.length_cons] <;> omega
theorem written_ok : EntOK Tryz.prog 43 eWritten := fun args pre => by
  unfold eWritten
  split
  · rename_i l
    have e : Comes tabR nolv 43 [.str l] [] (.br (plainF l l.length 0) (.ret (.str l) []) (.br (decide (l.length ≤ 1000000)) (.br (decide ([39].length + (dblS l).length ≤ 9223372036854775807)) (.br (decide (([39] ++ dblS l).length + [39].length ≤ 9223372036854775807)) (.ret (.str ([39] ++ dblS l ++ [39])) []) .fail) .fail) .fail)) := by unfold Comes; kernel_rfl
    refine of_run (ans_comes tabR_ok e) fun r h => ?_
    obtain ⟨h1, h⟩ := chk_run h
    have h1 := of_decide_eq_true h1
    have hd := dbl_len l
    rw [← h]
    simp only [Ans.run, wriS]
    cases plainF l l.length 0 with
    | true => rfl
    | false =>
      simp only [bcond]
      rw [decide_eq_true h1, decide_eq_true (by simp only [List.length_cons, List.length_nil]; omega), decide_eq_true (by simp only [List.length_append, List.length_cons, List.length_nil]; omega)]
  · trivial
end Go.Proofs.YtanhlbdcjonaoaaGreatDoor

/- Layer 2: texts that are cut. -/
set_option linter.unusedVariables false
set_option linter.unusedSimpArgs false
namespace Go.Proofs.YtanhlbdcjonaoaaGreatDoor
open Go Sx

/-- Does a text begin with a byte? -/
def cpB (c : UInt8) (x : List UInt8) : Bool := x.take 1 == [c]
def cpAns (c : UInt8) (x : List UInt8) : Ans := .br (cpB c x) (.ret (.tuple [.str (x.drop 1), .bool true]) []) (.ret (.tuple [.str x, .bool false]) [])
def eCutP : Ent := fun args pre => match args, pre with
  | [.str x, .str [33]], [] => cpAns 33 x
  | [.str x, .str [36]], [] => cpAns 36 x
  | [.str x, .str [39]], [] => cpAns 39 x
  | _, _ => .fail
def cpT (c : UInt8) (x : List UInt8) : Ans :=
  .br (decide ((x.length : Int) ≥ ((1 : Nat) : Int))) (.br (decide (0 ≤ ((1 : Nat) : Int) ∧ ((1 : Nat) : Int).toNat ≤ x.length)) (.br (!(List.take (((1 : Nat) : Int).toNat - 0) (List.drop 0 x) == [c])) (.ret (.tuple [.str x, .bool false]) [])
    (.br (decide (0 ≤ ((1 : Nat) : Int) ∧ ((1 : Nat) : Int).toNat ≤ x.length)) (.ret (.tuple [.str (List.take (x.length - ((1 : Nat) : Int).toNat) (List.drop ((1 : Nat) : Int).toNat x)), .bool true]) []) .fail)) .fail) (.ret (.tuple [.str x, .bool false]) [])
theorem cp_run (c : UInt8) (x : List UInt8) (r : AV × List PObj) (h : (cpAns c x).run pure2 = some r) : (cpT c x).run pure2 = some r := by
  rw [← h]
  simp only [cpT, cpAns, Ans.run, cpB]
  cases x with
  | nil => rfl
  | cons a l =>
    have h1 : ((a :: l).length : Int) ≥ ((1 : Nat) : Int) := by simp only [List.length_cons]; omega
    have h2 : 0 ≤ ((1 : Nat) : Int) ∧ ((1 : Nat) : Int).toNat ≤ (a :: l).length := by simp only [List.length_cons]; omega
    rw [bcT (b := decide (((a :: l).length : Int) ≥ ((1 : Nat) : Int))) (decide_eq_true h1), bcT (b := decide (0 ≤ ((1 : Nat) : Int) ∧ _)) (decide_eq_true h2), bcT (b := decide (0 ≤ ((1 : Nat) : Int) ∧ _)) (decide_eq_true h2)]
    have e : List.take ((a :: l).length - ((1 : Nat) : Int).toNat) (List.drop ((1 : Nat) : Int).toNat (a :: l)) = List.drop 1 (a :: l) := List.take_of_length_le (by simp)
    rw [e]
    show bcond (!(List.take 1 (a :: l) == [c])) _ _ = _
    cases (List.take 1 (a :: l) == [c]) <;> rfl
theorem cutP_ok : EntOK Tryz.prog 32 eCutP := fun args pre => by
  unfold eCutP
  split
  · rename_i x
    have e : Comes tab0 nolv 32 [.str x, .str [33]] [] (cpT 33 x) := by unfold Comes; kernel_rfl
    exact of_run (ans_comes tab0_ok e) fun r h => cp_run 33 x r h
  · rename_i x
    have e : Comes tab0 nolv 32 [.str x, .str [36]] [] (cpT 36 x) := by unfold Comes; kernel_rfl
    exact of_run (ans_comes tab0_ok e) fun r h => cp_run 36 x r h
  · rename_i x
    have e : Comes tab0 nolv 32 [.str x, .str [39]] [] (cpT 39 x) := by unfold Comes; kernel_rfl
    exact of_run (ans_comes tab0_ok e) fun r h => cp_run 39 x r h
  · trivial

/-- A text in two, at a byte. -/
def ixC (c : UInt8) (x : List UInt8) : Int := Lib.indexByte x c
def ctAns (c : UInt8) (x : List UInt8) : Ans := .chk (decide (x.length ≤ 1000000)) (.br (decide (ixC c x ≥ 0)) (.ret (.tuple [.str (x.take (ixC c x).toNat), .str (x.drop ((ixC c x).toNat + 1)), .bool true]) []) (.ret (.tuple [.str x, .str [], .bool false]) []))
def eCut : Ent := fun args pre => match args, pre with
  | [.str x, .str [33]], [] => ctAns 33 x
  | [.str x, .str [39]], [] => ctAns 39 x
  | _, _ => .fail
def w1 (a : Int) : Int := IntKind.i64.wrap (a + ((1 : Nat) : Int))
def ctT (c : UInt8) (x : List UInt8) : Ans :=
  .br ([c] == x) (.br (decide (0 ≤ w1 0 ∧ (w1 0).toNat ≤ x.length)) (.ret (.tuple [.str (List.take (Int.toNat 0 - 0) (List.drop 0 x)), .str (List.take (x.length - (w1 0).toNat) (List.drop (w1 0).toNat x)), .bool true]) []) .fail)
    (.br (decide (ixC c x ≥ 0)) (.br (decide (0 ≤ ixC c x ∧ (ixC c x).toNat ≤ x.length)) (.br (decide (0 ≤ w1 (ixC c x) ∧ (w1 (ixC c x)).toNat ≤ x.length))
      (.ret (.tuple [.str (List.take ((ixC c x).toNat - 0) (List.drop 0 x)), .str (List.take (x.length - (w1 (ixC c x)).toNat) (List.drop (w1 (ixC c x)).toNat x)), .bool true]) []) .fail) .fail) (.ret (.tuple [.str x, .str [], .bool false]) []))
theorem ct_run (c : UInt8) (x : List UInt8) (r : AV × List PObj) (h : (ctAns c x).run pure2 = some r) : (ctT c x).run pure2 = some r := by
  obtain ⟨hl, h⟩ := chk_run h
  have hl := of_decide_eq_true hl
  rw [← h]
  simp only [ctT, Ans.run]
  have w0 : w1 0 = 1 := rfl
  cases he : ([c] == x) with
  | true =>
    have : x = [c] := (beq_iff_eq.1 he).symm
    subst this
    have hi : ixC c [c] = 0 := by unfold ixC Lib.indexByte; simp
    rw [hi, w0]
    rfl
  | false =>
    by_cases h0 : ixC c x ≥ 0
    · obtain ⟨o, ho⟩ : ∃ o : Nat, ixC c x = o := ⟨(ixC c x).toNat, by omega⟩
      obtain ⟨h1, _⟩ := Lib.indexByte_some ho
      have hlt := (List.getElem?_eq_some_iff.1 h1).1
      have hw : w1 (ixC c x) = ((o + 1 : Nat) : Int) := by unfold w1; rw [ho, i64_in (by omega) (by omega)]; push_cast; rfl
      rw [hw, ho]
      refine (bcF (b := false) rfl).trans ?_
      rw [bcT (b := decide ((o : Int) ≥ 0)) (decide_eq_true (by omega)), bcT (b := decide (0 ≤ (o : Int) ∧ _)) (decide_eq_true (by omega)), bcT (b := decide (0 ≤ ((o + 1 : Nat) : Int) ∧ _)) (decide_eq_true (by omega)), bcT (b := decide ((o : Int) ≥ 0)) (decide_eq_true (by omega))]
      rw [Int.toNat_natCast, Int.toNat_natCast, List.take_of_length_le (l := List.drop (o + 1) x) (by rw [List.length_drop]; exact Nat.le_refl _)]
      rfl
    · refine (bcF (b := false) rfl).trans ?_
      rw [bcF (b := decide (ixC c x ≥ 0)) (decide_eq_false h0), bcF (b := decide (ixC c x ≥ 0)) (decide_eq_false h0)]
theorem cut_ok : EntOK Tryz.prog 57 eCut := fun args pre => by
  unfold eCut
  split
  · rename_i x
    have e : Comes tab0 nolv 57 [.str x, .str [33]] [] (ctT 33 x) := by unfold Comes; kernel_rfl
    exact of_run (ans_comes tab0_ok e) fun r h => ct_run 33 x r h
  · rename_i x
    have e : Comes tab0 nolv 57 [.str x, .str [39]] [] (ctT 39 x) := by unfold Comes; kernel_rfl
    exact of_run (ans_comes tab0_ok e) fun r h => ct_run 39 x r h
  · trivial
end Go.Proofs.YtanhlbdcjonaoaaGreatDoor

/- Layer 2: texts that are built, also of nothing. -/
set_option linter.unusedVariables false
set_option linter.unusedSimpArgs false
namespace Go.Proofs.YtanhlbdcjonaoaaGreatDoor
open Go Sx

def bNil : PObj := .raw (.cells [.ptr 0 0, .nilslice] 73)
def eWS2 : Ent := fun args pre => match args, pre with
  | [.ptr 0 0, .str x], [.raw (.cells [.nilptr, .nilslice] 73)] => .chk (decide (x.length ≤ 1000000)) (.br (decide (0 < x.length)) (.ret (.tuple [.int .i64 (x.length : Int), .niliface]) [bOn 1 x.length, .vecB x 5]) (.ret (.tuple [.int .i64 (x.length : Int), .niliface]) [bNil]))
  | args, pre => eWS args pre
theorem ws2_ok : EntOK Tryz.prog 42 eWS2 := fun args pre => by
  unfold eWS2
  split
  · rename_i x
    have e : Comes tab0 nolv 42 [.ptr 0 0, .str x] [bNew] (.br (decide (0 < x.length)) (.br (true && decide (2 * x.length * 1 ≤ 281474976710656 ∧ 2 * x.length < 9223372036854775808)) (.ret (.tuple [.int .i64 (x.length : Int), .niliface]) [bOn 1 x.length, .vecB x 5]) .fail)
      (.ret (.tuple [.int .i64 (x.length : Int), .niliface]) [bNil])) := by unfold Comes; kernel_rfl
    refine of_run (ans_comes tab0_ok e) fun r h => ?_
    obtain ⟨h1, h⟩ := chk_run h
    have h1 := of_decide_eq_true h1
    rw [← h]
    simp only [Ans.run]
    rw [bcT (b := true && _) (by rw [Bool.true_and, decide_eq_true_eq]; omega)]
  · exact ws_ok _ _
def eWB2 : Ent := fun args pre => match args, pre with
  | [.ptr 0 0, .int .u8 39], [.raw (.cells [.ptr 0 0, .nilslice] 73)] => .ret .niliface [bOn 1 1, .vecB [39] 5]
  | [.ptr 0 0, .int .u8 39], [.raw (.cells [.ptr 0 0, .vec 1 m] 73), .vecB acc 5] => .chk (decide (acc.length = m ∧ m + 1 ≤ 1000000)) (.ret .niliface [bOn 2 (m + 1), .raw .dead, .vecB (acc ++ [39]) 5])
  | args, pre => eWB args pre
theorem wb2_ok : EntOK Tryz.prog 44 eWB2 := fun args pre => by
  unfold eWB2
  split
  · have e : Comes tab0 nolv 44 [.ptr 0 0, .int .u8 39] [bNil] (.ret .niliface [bOn 1 1, .vecB [39] 5]) := by unfold Comes; kernel_rfl
    exact of_run (ans_comes tab0_ok e) fun r h => h
  · rename_i m acc
    have e : Comes tab0 nolv 44 [.ptr 0 0, .int .u8 39] [bOn 1 m, .vecB acc 5] (.br (roomB acc m 1) (.ret .niliface [bOn 2 (m + 1), .raw .dead, .vecB (acc ++ [39]) 5]) .fail) := by unfold Comes; kernel_rfl
    refine of_run (ans_comes tab0_ok e) fun r h => ?_
    obtain ⟨h1, h⟩ := chk_run h
    have h1 := of_decide_eq_true h1
    rw [← h]
    simp only [Ans.run]
    rw [bcT (b := roomB acc m 1) (room_ok h1.1 h1.2)]
  · exact wb_ok _ _
def eBS2 : Ent := fun args pre => match args, pre with
  | [.ptr 0 0], [.raw (.cells [.ptr 0 0, .nilslice] 73)] => .ret (.str []) [bNil]
  | args, pre => eBS args pre
theorem bs2_ok : EntOK Tryz.prog 47 eBS2 := fun args pre => by
  unfold eBS2
  split
  · have e : Comes tab0 nolv 47 [.ptr 0 0] [bNil] (.ret (.str []) [bNil]) := by unfold Comes; kernel_rfl
    exact of_run (ans_comes tab0_ok e) fun r h => h
  · exact bs_ok _ _
/-- What cutQuoted calls; is it a sheet's name: by a function that is not looked into. -/
def eBoolF (f : List UInt8 → Bool) : Ent := fun args pre => match args, pre with
  | [.str l], [] => .ret (.bool (f l)) []
  | _, _ => .fail
def tabC (f : List UInt8 → Bool) : Tab := (48, eBoolF f) :: (42, eWS2) :: (44, eWB2) :: (47, eBS2) :: (32, eCutP) :: (57, eCut) :: tab0
end Go.Proofs.YtanhlbdcjonaoaaGreatDoor

/- Layer 2: names between apostrophes, read. -/
set_option linter.unusedVariables false
set_option linter.unusedSimpArgs false
namespace Go.Proofs.YtanhlbdcjonaoaaGreatDoor
open Go Sx

def st50a (l : List UInt8) : PState :=
  ⟨some (.str l) :: none :: some (.str []) :: some (.str []) :: some (.bool false) :: some (.ptr 0 0) :: List.replicate 34 none, some (.raw (.cells [.nilptr, .nilslice] 73)) :: List.replicate 64 none⟩
def st50b (l acc : List UInt8) (m : Nat) : PState :=
  ⟨some (.str l) :: none :: some (.str []) :: some (.str []) :: some (.bool false) :: some (.ptr 0 0) :: List.replicate 34 none, some (.raw (.cells [.ptr 0 0, .vec 1 m] 73)) :: some (.vecB acc 5) :: List.replicate 64 none⟩
def fin50 (a b : List UInt8) (c : Bool) : PState := ⟨none :: none :: some (.str a) :: some (.str b) :: some (.bool c) :: List.replicate 35 none, List.replicate 64 none⟩
def bsB (a : List UInt8) (m : Nat) : Bool := decide (0 < a.length ∧ a.length = m ∧ m ≤ 1000000)
def on50 (f : List UInt8 → Bool) (acc : List UInt8) (m : Nat) (beh : List UInt8) : Option (Ex × PState) :=
  bcond (cpB 33 beh) (bcond (bsB acc m) (bcond (bsB acc m) (some (.ret, fin50 acc (beh.drop 1) (f acc))) none) none)
    (bcond (cpB 39 beh) (bcond (decide (acc.length = m ∧ m + 1 ≤ 1000000)) (some (.normal, st50b (beh.drop 1) (acc ++ [39]) (m + 1))) none) (some (.ret, fin50 [] [] false)))
def nil50 (f : List UInt8 → Bool) (beh : List UInt8) : Option (Ex × PState) :=
  bcond (cpB 33 beh) (some (.ret, fin50 [] (beh.drop 1) (f []))) (bcond (cpB 39 beh) (some (.normal, st50b (beh.drop 1) [39] 1)) (some (.ret, fin50 [] [] false)))
theorem round50a (f : List UInt8 → Bool) (l : List UInt8) : code (ent (R := Ex × PState) Tryz.prog (tabC f) nolv 64 18446744073709551616 30) Tryz.prog {} 0 64 18446744073709551616 ((loopBodies (bodyOf Tryz.f56)).headD .skip) (st50a l) (endK 0 64 (fun n => hasN [0, 2, 3, 4, 5] n) (fun n => hasN [2, 3, 4] n)) =
    bcond (decide (l.length ≤ 1000000)) (bcond (decide (ixC 39 l ≥ 0)) (bcond (decide ((l.take (ixC 39 l).toNat).length ≤ 1000000)) (bcond (decide (0 < (l.take (ixC 39 l).toNat).length)) (on50 f (l.take (ixC 39 l).toNat) (l.take (ixC 39 l).toNat).length (l.drop ((ixC 39 l).toNat + 1))) (nil50 f (l.drop ((ixC 39 l).toNat + 1)))) none)
      (bcond (decide (l.length ≤ 1000000)) (bcond (decide (0 < l.length)) (some (.ret, fin50 [] [] false)) (some (.ret, fin50 [] [] false))) none)) none := by kernel_rfl
theorem round50b (f : List UInt8 → Bool) (l acc : List UInt8) (m : Nat) : code (ent (R := Ex × PState) Tryz.prog (tabC f) nolv 64 18446744073709551616 30) Tryz.prog {} 0 64 18446744073709551616 ((loopBodies (bodyOf Tryz.f56)).headD .skip) (st50b l acc m) (endK 0 64 (fun n => hasN [0, 2, 3, 4, 5] n) (fun n => hasN [2, 3, 4] n)) =
    bcond (decide (l.length ≤ 1000000)) (bcond (decide (ixC 39 l ≥ 0)) (bcond (decide (acc.length = m ∧ m + (l.take (ixC 39 l).toNat).length ≤ 1000000)) (on50 f (acc ++ l.take (ixC 39 l).toNat) (m + (l.take (ixC 39 l).toNat).length) (l.drop ((ixC 39 l).toNat + 1))) none)
      (bcond (decide (acc.length = m ∧ m + l.length ≤ 1000000)) (some (.ret, fin50 [] [] false)) none)) none := by kernel_rfl
end Go.Proofs.YtanhlbdcjonaoaaGreatDoor

/- Layer 2: names between apostrophes, read: the loop. -/
set_option linter.unusedVariables false
set_option linter.unusedSimpArgs false
namespace Go.Proofs.YtanhlbdcjonaoaaGreatDoor
open Go Sx

def prt (l : List UInt8) : List UInt8 := l.take (ixC 39 l).toNat
def bhd (l : List UInt8) : List UInt8 := l.drop ((ixC 39 l).toNat + 1)
def inv50 (l acc : List UInt8) : PState := bcond acc.isEmpty (st50a l) (st50b l acc acc.length)
def rnd50 (f : List UInt8 → Bool) (l acc : List UInt8) : Option (Ex × PState) :=
  bcond (decide (ixC 39 l ≥ 0)) (bcond (cpB 33 (bhd l)) (some (.ret, fin50 (acc ++ prt l) ((bhd l).drop 1) (f (acc ++ prt l))))
    (bcond (cpB 39 (bhd l)) (some (.normal, inv50 ((bhd l).drop 1) (acc ++ prt l ++ [39]))) (some (.ret, fin50 [] [] false)))) (some (.ret, fin50 [] [] false))
theorem on50_eq (f : List UInt8 → Bool) (a beh : List UInt8) (h0 : 0 < a.length) (h1 : a.length + beh.length ≤ 1000000) : on50 f a a.length beh =
    bcond (cpB 33 beh) (some (.ret, fin50 a (beh.drop 1) (f a))) (bcond (cpB 39 beh) (some (.normal, inv50 (beh.drop 1) (a ++ [39]))) (some (.ret, fin50 [] [] false))) := by
  unfold on50
  rw [bcT (b := bsB a a.length) (by unfold bsB; rw [decide_eq_true_eq]; omega)]
  rw [bcT (b := bsB a a.length) (by unfold bsB; rw [decide_eq_true_eq]; omega)]
  cases cpB 33 beh with
  | true => rfl
  | false =>
    rw [bcF rfl, bcF rfl]
    cases h39 : cpB 39 beh with
    | false => rfl
    | true =>
      have hb : 1 ≤ beh.length := by
        cases beh with
        | nil => cases h39
        | cons c r => simp
      rw [bcT (b := true) rfl, bcT (b := true) rfl, bcT (b := decide (a.length = a.length ∧ a.length + 1 ≤ 1000000)) (by rw [decide_eq_true_eq]; omega)]
      unfold inv50
      have he : (a ++ [39]).isEmpty = false := by cases a <;> rfl
      rw [he, List.length_append]; rfl
theorem round50 (f : List UInt8 → Bool) (l acc : List UInt8) (h : acc.length + l.length ≤ 1000000) : code (ent (R := Ex × PState) Tryz.prog (tabC f) nolv 64 18446744073709551616 30) Tryz.prog {} 0 64 18446744073709551616 ((loopBodies (bodyOf Tryz.f56)).headD .skip) (inv50 l acc) (endK 0 64 (fun n => hasN [0, 2, 3, 4, 5] n) (fun n => hasN [2, 3, 4] n)) = rnd50 f l acc := by
  have hp : (prt l).length + (bhd l).length ≤ l.length := by unfold prt bhd; rw [List.length_take, List.length_drop]; omega
  unfold rnd50
  cases acc with
  | nil =>
    show code _ _ _ _ _ _ _ (st50a l) _ = _
    rw [round50a]
    simp only [List.length_nil, Nat.zero_add] at h
    rw [bcT (b := decide (l.length ≤ 1000000)) (decide_eq_true h), bcT (b := decide (l.length ≤ 1000000)) (decide_eq_true h), List.nil_append]
    by_cases h1 : ixC 39 l ≥ 0
    · rw [bcT (b := decide (ixC 39 l ≥ 0)) (decide_eq_true h1), bcT (b := decide (ixC 39 l ≥ 0)) (decide_eq_true h1)]
      show bcond (decide ((prt l).length ≤ 1000000)) (bcond (decide (0 < (prt l).length)) (on50 f (prt l) (prt l).length (bhd l)) (nil50 f (bhd l))) none = _
      rw [bcT (b := decide ((prt l).length ≤ 1000000)) (decide_eq_true (by omega))]
      by_cases h2 : 0 < (prt l).length
      · rw [bcT (b := decide (0 < (prt l).length)) (decide_eq_true h2), on50_eq f _ _ h2 (by omega)]
      · rw [bcF (b := decide (0 < (prt l).length)) (decide_eq_false h2)]
        have h3 : prt l = [] := List.eq_nil_of_length_eq_zero (by omega)
        rw [h3]; rfl
    · rw [bcF (b := decide (ixC 39 l ≥ 0)) (decide_eq_false h1), bcF (b := decide (ixC 39 l ≥ 0)) (decide_eq_false h1)]
      cases decide (0 < l.length) <;> rfl
  | cons c r =>
    show code _ _ _ _ _ _ _ (st50b l (c :: r) (c :: r).length) _ = _
    rw [round50b]
    generalize hA : c :: r = a at *
    have ha : 0 < a.length := by rw [← hA]; simp
    rw [bcT (b := decide (l.length ≤ 1000000)) (decide_eq_true (by omega))]
    by_cases h1 : ixC 39 l ≥ 0
    · rw [bcT (b := decide (ixC 39 l ≥ 0)) (decide_eq_true h1), bcT (b := decide (ixC 39 l ≥ 0)) (decide_eq_true h1)]
      show bcond (decide (a.length = a.length ∧ a.length + (prt l).length ≤ 1000000)) (on50 f (a ++ prt l) (a.length + (prt l).length) (bhd l)) none = _
      rw [bcT (b := decide (a.length = a.length ∧ _)) (decide_eq_true ⟨rfl, by omega⟩), ← List.length_append]
      exact on50_eq f _ _ (by rw [List.length_append]; omega) (by rw [List.length_append]; omega)
    · rw [bcF (b := decide (ixC 39 l ≥ 0)) (decide_eq_false h1), bcF (b := decide (ixC 39 l ≥ 0)) (decide_eq_false h1), bcT (b := decide (a.length = a.length ∧ _)) (decide_eq_true ⟨rfl, h⟩)]
/-- A name between apostrophes, and what stands behind its exclamation mark. -/
def cqF (f : List UInt8 → Bool) : Nat → List UInt8 → List UInt8 → List UInt8 × List UInt8 × Bool
  | 0, _, _ => ([], [], false)
  | n + 1, l, acc => bcond (decide (ixC 39 l ≥ 0)) (bcond (cpB 33 (bhd l)) (acc ++ prt l, (bhd l).drop 1, f (acc ++ prt l))
    (bcond (cpB 39 (bhd l)) (cqF f n ((bhd l).drop 1) (acc ++ prt l ++ [39])) ([], [], false))) ([], [], false)
def out50 (r : List UInt8 × List UInt8 × Bool) : Ex × PState := (.ret, fin50 r.1 r.2.1 r.2.2)
theorem loop50 (f : List UInt8 → Bool) (hT : TabOK Tryz.prog (tabC f)) (l : List UInt8) (h : l.length ≤ 1000000) : Tri Tryz.prog (.loop ((loopBodies (bodyOf Tryz.f56)).headD .skip)) (st50a l).toA .ret (out50 (cqF f (l.length + 1) l [])).2.toA 0 := by
  refine loop_rounds (ι := { q : List UInt8 × List UInt8 × Nat // q.2.1.length + q.1.length ≤ 1000000 ∧ q.1.length < q.2.2 }) (ent_sound (NF := 64) (m := 18446744073709551616) hT host nolv_ok 30) (lv := {}) (NF := 64) (m := 18446744073709551616) (fun x hx id e h1 h2 => by cases h2) (fun n => hasN [0, 2, 3, 4, 5] n) (fun n => hasN [2, 3, 4] n) (fun q => inv50 q.1.1 q.1.2.1) (fun q => q.1.1.length) (fun q => out50 (cqF f q.1.2.2 q.1.1 q.1.2.1)) ?_ (fun q => by simp [out50]) ⟨(l, [], l.length + 1), by simp; exact h⟩
  rintro ⟨⟨l, acc, n⟩, h1, h2⟩
  simp only at h1 h2 ⊢
  rw [round50 f l acc h1]
  unfold rnd50
  cases n with
  | zero => omega
  | succ n =>
    simp only [cqF]
    cases c1 : decide (ixC 39 l ≥ 0) with
    | false => exact .inr rfl
    | true =>
      cases c2 : cpB 33 (bhd l) with
      | true => exact .inr rfl
      | false =>
        cases c3 : cpB 39 (bhd l) with
        | false => exact .inr rfl
        | true =>
          have hb : 1 ≤ (bhd l).length := by
            cases hb : bhd l with
            | nil => rw [hb] at c3; cases c3
            | cons c r => simp
          have hp : (prt l).length + (bhd l).length + 1 ≤ l.length := by
            have h3 : 1 ≤ (bhd l).length := hb
            unfold bhd at h3
            unfold prt bhd
            rw [List.length_drop] at h3
            rw [List.length_take, List.length_drop]; omega
          refine .inl ⟨⟨((bhd l).drop 1, acc ++ prt l ++ [39], n), ?_⟩, ?_, rfl, rfl⟩
          · simp only [List.length_append, List.length_drop, List.length_cons, List.length_nil]; omega
          · simp only [List.length_drop]; omega
end Go.Proofs.YtanhlbdcjonaoaaGreatDoor

/- Layer 2: names of sheets, read. -/
set_option linter.unusedVariables false
set_option linter.unusedSimpArgs false
namespace Go.Proofs.YtanhlbdcjonaoaaGreatDoor
open Go Sx

theorem tabC_ok : TabOK Tryz.prog (tabC sheetB) := .cons isSheetP_ok (.cons ws2_ok (.cons wb2_ok (.cons bs2_ok (.cons cutP_ok (.cons cut_ok tab0_ok)))))
def e50 (g : List UInt8 → List UInt8 × List UInt8 × Bool) : Nat → PState → LAns := fun K t => match K, t with
  | 0, ⟨some (.str l) :: none :: some (.str []) :: some (.str []) :: some (.bool false) :: some (.ptr 0 0) :: rs, some (.raw (.cells [.nilptr, .nilslice] 73)) :: rm⟩ =>
    .chk (nonesV 34 rs) (.chk (nonesB 64 rm) (.chk (decide (l.length ≤ 1000000)) (.out .ret (fin50 (g l).1 (g l).2.1 (g l).2.2))))
  | _, _ => .fail
def lv50 (g : List UInt8 → List UInt8 × List UInt8 × Bool) : FuncId → Lv := fun f => match f with
  | 56 => { keep := fun _ => some [0, 2, 3, 4, 5], ent := fun i => match i with | 2 => some (e50 g) | _ => none }
  | _ => {}
/-- What stands between the apostrophes, and behind. -/
def cqS (l : List UInt8) : List UInt8 × List UInt8 × Bool := cqF sheetB (l.length + 1) l []
theorem lv50_ok : LvOK Tryz.prog (lv50 cqS) := by
  intro f fn body hf hb K x hx id e hid he t
  by_cases h : f = 56
  · subst h
    obtain rfl : fn = Tryz.f56 := (Option.some.inj (Tryz.func56.symm.trans hf)).symm
    have hbody : body = bodyOf Tryz.f56 := by unfold bodyOf; rw [hb]; rfl
    subst hbody
    have h1 : loopBodies (bodyOf Tryz.f56) = [(loopBodies (bodyOf Tryz.f56)).headD .skip] := by kernel_rfl
    rw [h1] at hx
    have hx' := List.mem_singleton.1 hx
    have h2 : id = 2 := by
      have h3 : headReg ((loopBodies (bodyOf Tryz.f56)).headD .skip) = some 2 := by kernel_rfl
      rw [hx', h3] at hid; exact (Option.some.inj hid).symm
    subst h2
    have he' : e50 cqS = e := Option.some.inj he
    subst he'
    rw [hx']
    clear hx hx' hid he hb hf h1
    unfold e50
    split
    · rename_i l rs rm
      refine ⟨fun g1 => ⟨fun g2 => ⟨fun g3 => ?_, fun _ => trivial⟩, fun _ => trivial⟩, fun _ => trivial⟩
      rw [nonesV_eq _ _ g1, nonesB_eq _ _ g2]
      exact loop50 sheetB tabC_ok l (of_decide_eq_true g3)
    · trivial
  · exfalso
    have : (lv50 cqS f).ent id = none := by
      unfold lv50
      split
      · exact absurd rfl h
      · rfl
    rw [this] at he; cases he
def eTri (g : List UInt8 → List UInt8 × List UInt8 × Bool) : Ent := fun args pre => match args, pre with
  | [.str l], [] => .chk (decide (l.length ≤ 1000000)) (.ret (.tuple [.str (g l).1, .str (g l).2.1, .bool (g l).2.2]) [])
  | _, _ => .fail
theorem cutQuoted_ok : EntOK Tryz.prog 56 (eTri cqS) := fun args pre => by
  unfold eTri
  split
  · rename_i l
    have e : Comes (tabC sheetB) (lv50 cqS) 56 [.str l] [] (.br (decide (l.length ≤ 1000000)) (.ret (.tuple [.str (cqS l).1, .str (cqS l).2.1, .bool (cqS l).2.2]) []) .fail) := by unfold Comes; kernel_rfl
    refine of_run (ans_comes tabC_ok e lv50_ok) fun r h => ?_
    obtain ⟨h1, h⟩ := chk_run h
    rw [← h]
    simp only [Ans.run]
    rw [bcT h1]
  · trivial
def tabD (g : List UInt8 → List UInt8 × List UInt8 × Bool) (p f : List UInt8 → Bool) : Tab := (56, eTri g) :: (58, eBoolF p) :: (48, eBoolF f) :: (32, eCutP) :: (57, eCut) :: tab0
theorem tabD_ok : TabOK Tryz.prog (tabD cqS (fun l => plainF l l.length 0) sheetB) := .cons cutQuoted_ok (.cons plain_ok (.cons isSheetP_ok (.cons cutP_ok (.cons cut_ok tab0_ok))))
end Go.Proofs.YtanhlbdcjonaoaaGreatDoor

/- Layer 2: names of sheets ahead of a reference. -/
set_option linter.unusedVariables false
set_option linter.unusedSimpArgs false
namespace Go.Proofs.YtanhlbdcjonaoaaGreatDoor
open Go Sx

/-- What stands ahead of the exclamation mark, and behind it. -/
def csF (g : List UInt8 → List UInt8 × List UInt8 × Bool) (p f : List UInt8 → Bool) (l : List UInt8) : List UInt8 × List UInt8 × Bool :=
  bcond (cpB 39 l) (g (l.drop 1)) (bcond (decide (ixC 33 l ≥ 0)) (l.take (ixC 33 l).toNat, l.drop ((ixC 33 l).toNat + 1), p (l.take (ixC 33 l).toNat) && f (l.take (ixC 33 l).toNat)) ([], l, true))
theorem cutSheet_comes (g : List UInt8 → List UInt8 × List UInt8 × Bool) (p f : List UInt8 → Bool) (l : List UInt8) : Comes (tabD g p f) nolv 30 [.str l] []
    (.br (cpB 39 l) (.br (decide ((l.drop 1).length ≤ 1000000)) (.ret (.tuple [.str (g (l.drop 1)).1, .str (g (l.drop 1)).2.1, .bool (g (l.drop 1)).2.2]) []) .fail)
      (.br (decide (l.length ≤ 1000000)) (.br (decide (ixC 33 l ≥ 0)) (.br (p (l.take (ixC 33 l).toNat)) (.ret (.tuple [.str (l.take (ixC 33 l).toNat), .str (l.drop ((ixC 33 l).toNat + 1)), .bool (f (l.take (ixC 33 l).toNat))]) [])
        (.ret (.tuple [.str (l.take (ixC 33 l).toNat), .str (l.drop ((ixC 33 l).toNat + 1)), .bool false]) [])) (.ret (.tuple [.str [], .str l, .bool true]) [])) .fail)) := by unfold Comes; kernel_rfl
def csS (l : List UInt8) : List UInt8 × List UInt8 × Bool := csF cqS (fun l => plainF l l.length 0) sheetB l
theorem cutSheet_ok : EntOK Tryz.prog 30 (eTri csS) := fun args pre => by
  unfold eTri
  split
  · rename_i l
    refine of_run (ans_comes tabD_ok (cutSheet_comes _ _ _ l)) fun r h => ?_
    obtain ⟨h1, h⟩ := chk_run h
    have h1 := of_decide_eq_true h1
    rw [← h]
    simp only [Ans.run, csS, csF]
    cases cpB 39 l with
    | true =>
      rw [bcT (b := decide ((l.drop 1).length ≤ 1000000)) (by rw [decide_eq_true_eq, List.length_drop]; omega)]
      rfl
    | false =>
      rw [bcT (b := decide (l.length ≤ 1000000)) (decide_eq_true h1)]
      cases decide (ixC 33 l ≥ 0) with
      | false => rfl
      | true =>
        cases hp : plainF (l.take (ixC 33 l).toNat) (l.take (ixC 33 l).toNat).length 0 with
        | false => simp only [bcond, Bool.false_and, hp]
        | true => simp only [bcond, Bool.true_and, hp]
  · trivial
end Go.Proofs.YtanhlbdcjonaoaaGreatDoor

/- Layer 2: references, read. -/
set_option linter.unusedVariables false
set_option linter.unusedSimpArgs false
namespace Go.Proofs.YtanhlbdcjonaoaaGreatDoor
open Go Sx

def eTrimO (tl td : List UInt8 → List UInt8) : Ent := fun args pre => match args, pre with
  | [.str l, .func 35 [] []], [] => .chk (decide (l.length ≤ 9223372036854775807)) (.ret (.str (tl l)) [])
  | [.str l, .func 37 [] []], [] => .chk (decide (l.length ≤ 9223372036854775807)) (.ret (.str (td l)) [])
  | _, _ => .fail
def eRC (ok : List UInt8 → Bool) (rc : List UInt8 → Int × Int) : Ent := fun args pre => match args, pre with
  | [.str l], [] => .chk (ok l) (.ret (.tuple [.int .i64 (rc l).1, .int .i64 (rc l).2]) [])
  | _, _ => .fail
def eRR (ok : List UInt8 → Bool) (rr : List UInt8 → Int × Bool) : Ent := fun args pre => match args, pre with
  | [.str l], [] => .chk (ok l) (.ret (.tuple [.int .i64 (rr l).1, .bool (rr l).2]) [])
  | _, _ => .fail
def tabE (cs : List UInt8 → List UInt8 × List UInt8 × Bool) (tl td : List UInt8 → List UInt8) (okc : List UInt8 → Bool) (rc : List UInt8 → Int × Int) (okr : List UInt8 → Bool) (rr : List UInt8 → Int × Bool) : Tab := (30, eTri cs) :: (34, eTrimO tl td) :: (11, eRC okc rc) :: (36, eRR okr rr) :: (32, eCutP) :: tab0
end Go.Proofs.YtanhlbdcjonaoaaGreatDoor

/- Layer 2, the document's own Read: the states of its loops. -/
set_option linter.unusedVariables false
set_option linter.unusedSimpArgs false
namespace Go.Proofs.YtanhlbdcjonaoaaGreatDoor
open Go Sx

def obR (s : List UInt8) (r c : Int) (a b d : Bool) : PObj := .raw (.cells [.str s, .int .i64 r, .int .i64 c, .bool a, .bool b, .bool d] 23)
/-- At the letters. -/
def stRa (l s : List UInt8) (b : Bool) (i j : Int) : PState :=
  ⟨some (.str l) :: none :: some (.ptr 0 0) :: none :: none :: some (.int .i64 i) :: some (.ptr 1 0) :: some (.int .i64 j) :: List.replicate 85 none, some (obR [] 0 0 false false false) :: some (obR s 0 0 false b false) :: List.replicate 64 none⟩
/-- At the rows. -/
def stRb (l s : List UInt8) (c : Int) (a b : Bool) (i k : Int) : PState :=
  ⟨some (.str l) :: none :: some (.ptr 0 0) :: none :: none :: some (.int .i64 i) :: some (.ptr 1 0) :: none :: none :: none :: none :: some (.int .i64 k) :: List.replicate 81 none, some (obR [] 0 0 false false false) :: some (obR s 0 c a b false) :: List.replicate 64 none⟩
def eDigO (ok : Int → Bool) (D : Int → List UInt8) : Ent := fun args pre => match args, pre with
  | [.int .i64 n], [] => .chk (ok n) (.ret (.str (D n)) [])
  | _, _ => .fail
def tabRd (U : List UInt8 → List UInt8 × Int) (L : Int → Bool) (okc : List UInt8 → Bool) (R : List UInt8 → Int × Int) (okd : Int → Bool) (D : Int → List UInt8) : Tab := (38, eUO U) :: (39, eByte L) :: (12, eRC okc R) :: (28, eDigO okd D) :: tab0
end Go.Proofs.YtanhlbdcjonaoaaGreatDoor

/- Layer 2, the document's own Read: its loops. -/
set_option linter.unusedVariables false
set_option linter.unusedSimpArgs false
namespace Go.Proofs.YtanhlbdcjonaoaaGreatDoor
open Go Sx

/-- How many letters are ahead. -/
def ltF (L : Int → Bool) : List UInt8 → Nat
  | [] => 0
  | c :: r => bcond (L (c.toNat : Int)) (ltF L r + 1) 0
theorem ltF_le (L : Int → Bool) : ∀ l : List UInt8, ltF L l ≤ l.length
  | [] => Nat.le_refl _
  | c :: r => by
    have := ltF_le L r
    simp only [ltF, List.length_cons]
    cases L (c.toNat : Int) <;> simp only [bcond] <;> omega
/-- The first row that is written so. -/
def fdW (u : List UInt8) : Nat → Nat → Option Nat
  | 0, _ => none
  | f + 1, n => bcond (u == rowS (n + 1)) (some n) (fdW u f (n + 1))
def letN (n : Int) : Bool := decide (1 ≤ n ∧ n ≤ 200)
def rowI (n : Int) : List UInt8 := rowS n.toNat
variable (U : List UInt8 → List UInt8 × Int) (L : Int → Bool) (okc : List UInt8 → Bool) (R : List UInt8 → Int × Int)
theorem roundRa (l s : List UInt8) (b : Bool) (p : Nat) (j : Int) : code (ent (R := Ex × PState) Tryz.prog (tabRd U L okc R letN rowI) nolv 64 18446744073709551616 30) Tryz.prog {} 0 64 18446744073709551616 ((loopBodies (bodyOf Tryz.f10)).headD .skip) (stRa l s b p j) (endK 0 64 (fun n => hasN [0, 2, 5, 6, 7] n) (fun n => hasN [0, 2, 5, 6, 7] n)) =
    bcond (decide ((p : Int) < (l.length : Int))) (ibP l p (bcond (!L (byteAt l (p : Int).toNat)) (some (.exit 0, stRa l s b p j)) (some (.normal, stRa l s b (swA p) j)))) (some (.exit 0, stRa l s b p j)) := by kernel_rfl
def finRb (s : List UInt8) (k c : Int) (a b : Bool) : PState := ⟨none :: none :: some (.ptr 0 0) :: some (.int .i64 0) :: List.replicate 89 none, some (obR s k c a b false) :: List.replicate 64 none⟩
def finRx2 : PState := ⟨none :: none :: some (.ptr 0 0) :: List.replicate 90 none, some (obR [] 0 0 false false false) :: List.replicate 64 none⟩
def tlI (l : List UInt8) (i : Int) : List UInt8 := List.take (l.length - i.toNat) (List.drop i.toNat l)
theorem roundRb (l s : List UInt8) (c : Int) (a b : Bool) (i : Int) (k : Nat) : code (ent (R := Ex × PState) Tryz.prog (tabRd U L okc R letN rowI) nolv 64 18446744073709551616 30) Tryz.prog {} 0 64 18446744073709551616 (((loopBodies (bodyOf Tryz.f10)).drop 1).headD .skip) (stRb l s c a b i k) (endK 0 64 (fun n => hasN [0, 2, 5, 6, 11] n) (fun n => hasN [2, 3] n)) =
    bcond (decide ((k : Int) < 200)) (bcond (decide (0 ≤ i ∧ i.toNat ≤ l.length)) (bcond (letN (swA k)) (bcond (tlI l i == rowI (swA k)) (some (.ret, finRb s k c a b)) (some (.normal, stRb l s c a b i (swA k)))) none) none) (some (.exit 2, finRx2)) := by kernel_rfl

def okM (l : List UInt8) : Bool := decide (l.length ≤ 1000000)

theorem rcO_ok : EntOK Tryz.prog 12 (eRC okM rcD) := fun args pre => by
  unfold eRC
  split
  · rename_i l; exact readColD_ok [.str l] []
  · trivial
theorem digO_ok : EntOK Tryz.prog 28 (eDigO letN rowI) := fun args pre => by
  unfold eDigO
  split
  · rename_i n; exact digitsD_ok [.int .i64 n] []
  · trivial
theorem tabRdX_ok : TabOK Tryz.prog (tabRd shD letB okM rcD letN rowI) := .cons sheetD_ok (.cons letterD_ok (.cons rcO_ok (.cons digO_ok tab0_ok)))
theorem loopRa (l s : List UInt8) (b : Bool) (j : Int) (p : Nat) (hp : p ≤ l.length) (hl : l.length ≤ 1000000) : Tri Tryz.prog (.loop ((loopBodies (bodyOf Tryz.f10)).headD .skip)) (stRa l s b p j).toA (.exit 0) (stRa l s b ((p + ltF letB (l.drop p) : Nat) : Int) j).toA 0 := by
  have key := loop_rounds (ι := { q : Nat // q + ltF letB (l.drop q) = p + ltF letB (l.drop p) ∧ q ≤ l.length }) (ent_sound (NF := 64) (m := 18446744073709551616) tabRdX_ok host nolv_ok 30) (x := (loopBodies (bodyOf Tryz.f10)).headD .skip) (K := 0) (lv := {}) (NF := 64) (m := 18446744073709551616) (fun x hx id e h1 h2 => by cases h2) (fun n => hasN [0, 2, 5, 6, 7] n) (fun n => hasN [0, 2, 5, 6, 7] n) (fun q => stRa l s b (q.1 : Int) j) (fun q => l.length - q.1) (fun q => (.exit 0, stRa l s b ((p + ltF letB (l.drop p) : Nat) : Int) j)) ?_ (fun q => by simp) ⟨p, rfl, hp⟩
  · exact key
  rintro ⟨q, h1, h2⟩
  simp only at h1 h2 ⊢
  rw [roundRa]
  by_cases h : q < l.length
  · have hw : swA (q : Int) = ((q + 1 : Nat) : Int) := by unfold swA; rw [i64_in (by omega) (by omega)]; rfl
    rw [bcT (b := decide ((q : Int) < (l.length : Int))) (decide_eq_true (by omega)), ibP_ok h, Int.toNat_natCast, byte_get h, hw]
    rw [List.drop_eq_getElem_cons h, ltF] at h1
    cases hc : letB (l[q].toNat : Int) with
    | false =>
      rw [hc, bcF rfl] at h1
      rw [bcT (b := !false) rfl, ← h1]
      exact .inr rfl
    | true =>
      rw [hc, bcT rfl] at h1
      rw [bcF (b := !true) rfl]
      exact .inl ⟨⟨q + 1, by omega, h⟩, by simp only; omega, trivial, rfl⟩
  · have : q = l.length := by omega
    subst this
    rw [List.drop_length] at h1
    rw [bcF (b := decide _) (decide_eq_false (by omega)), ← h1]
    exact .inr rfl
def resRb (s : List UInt8) (c : Int) (a b : Bool) (o : Option Nat) : Ex × PState := match o with | some n => (.ret, finRb s (n : Int) c a b) | none => (.exit 2, finRx2)
theorem loopRb (l s : List UInt8) (c : Int) (a b : Bool) (i : Int) (h0 : 0 ≤ i) (hi : i.toNat ≤ l.length) : Tri Tryz.prog (.loop (((loopBodies (bodyOf Tryz.f10)).drop 1).headD .skip)) (stRb l s c a b i 0).toA (resRb s c a b (fdW (tlI l i) 200 0)).1 (resRb s c a b (fdW (tlI l i) 200 0)).2.toA 0 := by
  have key := loop_rounds (ι := { q : Nat × Nat // q.1 + q.2 = 200 }) (ent_sound (NF := 64) (m := 18446744073709551616) tabRdX_ok host nolv_ok 30) (x := ((loopBodies (bodyOf Tryz.f10)).drop 1).headD .skip) (K := 0) (lv := {}) (NF := 64) (m := 18446744073709551616) (fun x hx id e h1 h2 => by cases h2) (fun n => hasN [0, 2, 5, 6, 11] n) (fun n => hasN [2, 3] n) (fun q => stRb l s c a b i (q.1.2 : Int)) (fun q => q.1.1) (fun q => resRb s c a b (fdW (tlI l i) q.1.1 q.1.2)) ?_ (fun q => by
      unfold resRb; cases fdW (tlI l i) q.1.1 q.1.2 <;> simp) ⟨(200, 0), rfl⟩
  · exact key
  rintro ⟨⟨f, n⟩, h⟩
  simp only at h ⊢
  rw [roundRb]
  cases f with
  | zero =>
    rw [bcF (b := decide ((n : Int) < 200)) (decide_eq_false (by omega))]
    exact .inr rfl
  | succ f =>
    have hw : swA (n : Int) = ((n + 1 : Nat) : Int) := by unfold swA; rw [i64_in (by omega) (by omega)]; rfl
    have hr : rowI ((n + 1 : Nat) : Int) = rowS (n + 1) := rfl
    rw [bcT (b := decide ((n : Int) < 200)) (decide_eq_true (by omega)), bcT (b := decide (0 ≤ i ∧ _)) (decide_eq_true ⟨h0, hi⟩), hw, bcT (b := letN _) (decide_eq_true (by omega)), hr]
    simp only [fdW]
    cases h1 : tlI l i == rowS (n + 1) with
    | true => exact .inr rfl
    | false => exact .inl ⟨⟨(f, n + 1), by simp only; omega⟩, by simp, rfl, rfl⟩
def eRaL : Nat → PState → LAns := fun K t => match K, t with
  | 0, ⟨some (.str l) :: none :: some (.ptr 0 0) :: none :: none :: some (.int .i64 i) :: some (.ptr 1 0) :: some (.int .i64 j) :: rs, some (.raw (.cells [.str [], .int .i64 r0, .int .i64 c0, .bool false, .bool false, .bool false] 23)) :: some (.raw (.cells [.str s, .int .i64 r1, .int .i64 c1, .bool false, .bool b, .bool false] 23)) :: rm⟩ =>
    .chk (nonesV 85 rs) (.chk (nonesB 64 rm) (.chk (decide (r0 = 0 ∧ c0 = 0 ∧ r1 = 0 ∧ c1 = 0)) (.chk (decide (0 ≤ i ∧ i.toNat ≤ l.length ∧ l.length ≤ 1000000)) (.out (.exit 0) (stRa l s b ((i.toNat + ltF letB (l.drop i.toNat) : Nat) : Int) j)))))
  | _, _ => .fail
def eRbL : Nat → PState → LAns := fun K t => match K, t with
  | 0, ⟨some (.str l) :: none :: some (.ptr 0 0) :: none :: none :: some (.int .i64 i) :: some (.ptr 1 0) :: none :: none :: none :: none :: some (.int .i64 k) :: rs, some (.raw (.cells [.str [], .int .i64 r0, .int .i64 c0, .bool false, .bool false, .bool false] 23)) :: some (.raw (.cells [.str s, .int .i64 r1, .int .i64 c, .bool a, .bool b, .bool false] 23)) :: rm⟩ =>
    .chk (nonesV 81 rs) (.chk (nonesB 64 rm) (.chk (decide (r0 = 0 ∧ c0 = 0 ∧ r1 = 0 ∧ k = 0)) (.chk (decide (0 ≤ i ∧ i.toNat ≤ l.length)) (.br (fdW (tlI l i) 200 0).isSome (.out .ret (finRb s (((fdW (tlI l i) 200 0).getD 0 : Nat) : Int) c a b)) (.out (.exit 2) finRx2)))))
  | _, _ => .fail
def lvRd : FuncId → Lv := fun f => match f with
  | 10 => { keep := fun i => match i with | 11 => some [0, 2, 5, 6, 7] | 23 => some [0, 2, 5, 6, 11] | _ => none, ent := fun i => match i with | 11 => some eRaL | 23 => some eRbL | _ => none }
  | _ => {}
theorem lvRd_ok : LvOK Tryz.prog lvRd := by
  intro f fn body hf hb K x hx id e hid he t
  by_cases h : f = 10
  · subst h
    obtain rfl : fn = Tryz.f10 := (Option.some.inj (Tryz.func10.symm.trans hf)).symm
    have hbody : body = bodyOf Tryz.f10 := by unfold bodyOf; rw [hb]; rfl
    subst hbody
    have h1 : loopBodies (bodyOf Tryz.f10) = [(loopBodies (bodyOf Tryz.f10)).headD .skip, ((loopBodies (bodyOf Tryz.f10)).drop 1).headD .skip] := by kernel_rfl
    rw [h1] at hx
    rcases List.mem_cons.1 hx with hx' | hx'
    · have h2 : id = 11 := by
        have h3 : headReg ((loopBodies (bodyOf Tryz.f10)).headD .skip) = some 11 := by kernel_rfl
        rw [hx', h3] at hid; exact (Option.some.inj hid).symm
      subst h2
      have he' : eRaL = e := Option.some.inj he
      subst he'
      rw [hx']
      clear hx hx' hid he hb hf h1
      unfold eRaL
      split
      · rename_i l i j rs r0 c0 s r1 c1 b rm
        refine ⟨fun g1 => ⟨fun g2 => ⟨fun g3 => ⟨fun g4 => ?_, fun _ => trivial⟩, fun _ => trivial⟩, fun _ => trivial⟩, fun _ => trivial⟩
        obtain ⟨rfl, rfl, rfl, rfl⟩ := of_decide_eq_true g3
        obtain ⟨k1, k2, k3⟩ := of_decide_eq_true g4
        rw [nonesV_eq _ _ g1, nonesB_eq _ _ g2]
        have := loopRa l s b j i.toNat k2 k3
        rw [Int.toNat_of_nonneg k1] at this
        exact this
      · trivial
    · have hx' := List.mem_singleton.1 hx'
      have h2 : id = 23 := by
        have h3 : headReg (((loopBodies (bodyOf Tryz.f10)).drop 1).headD .skip) = some 23 := by kernel_rfl
        rw [hx', h3] at hid; exact (Option.some.inj hid).symm
      subst h2
      have he' : eRbL = e := Option.some.inj he
      subst he'
      rw [hx']
      clear hx hx' hid he hb hf h1
      unfold eRbL
      split
      · rename_i l i k rs r0 c0 s r1 c a b rm
        refine ⟨fun g1 => ⟨fun g2 => ⟨fun g3 => ⟨fun g4 => ?_, fun _ => trivial⟩, fun _ => trivial⟩, fun _ => trivial⟩, fun _ => trivial⟩
        obtain ⟨rfl, rfl, rfl, rfl⟩ := of_decide_eq_true g3
        obtain ⟨k1, k2⟩ := of_decide_eq_true g4
        rw [nonesV_eq _ _ g1, nonesB_eq _ _ g2]
        have := loopRb l s c a b i k1 k2
        cases ho : fdW (tlI l i) 200 0 with
        | none => rw [ho] at this; exact ⟨fun hc => (by cases hc), fun _ => this⟩
        | some n => rw [ho] at this; exact ⟨fun _ => this, fun hc => (by cases hc)⟩
      · trivial
  · exfalso
    have : (lvRd f).ent id = none := by
      unfold lvRd
      split
      · exact absurd rfl h
      · rfl
    rw [this] at he; cases he
end Go.Proofs.YtanhlbdcjonaoaaGreatDoor

/- Layer 2, the document's own Read: any text. -/
set_option linter.unusedVariables false
set_option linter.unusedSimpArgs false
namespace Go.Proofs.YtanhlbdcjonaoaaGreatDoor
open Go Sx

def hiI (l : List UInt8) (i : Int) : Int := ((i.toNat + ltF letB (l.drop i.toNat) : Nat) : Int)
def cuI (l : List UInt8) (i : Int) : List UInt8 := List.take ((hiI l i).toNat - i.toNat) (l.drop i.toNat)
def noRefE (e : Int) : Ans := .ret (.tuple [.agg [.str [], .int .i64 0, .int .i64 0, .bool false, .bool false, .bool false], .int .i64 e]) []
def rowU (l s : List UInt8) (c : Int) (b a : Bool) (h : Int) : Ans :=
  .chk (decide (0 ≤ h ∧ h.toNat ≤ l.length)) (.br (fdW (tlI l h) 200 0).isSome (.ret (.tuple [.agg [.str s, .int .i64 (((fdW (tlI l h) 200 0).getD 0 : Nat) : Int), .int .i64 c, .bool a, .bool b, .bool false], .int .i64 0]) []) (noRefE 20))
def colU (okc : List UInt8 → Bool) (R : List UInt8 → Int × Int) (l s : List UInt8) (b : Bool) (i : Int) : Ans :=
  .chk (decide (0 ≤ i ∧ i.toNat ≤ l.length ∧ l.length ≤ 1000000)) (.chk (decide (0 ≤ i ∧ 0 ≤ hiI l i ∧ i.toNat ≤ (hiI l i).toNat ∧ (hiI l i).toNat ≤ l.length)) (.chk (okc (cuI l i)) (.br ((R (cuI l i)).2 != 0) (noRefE (R (cuI l i)).2)
    (.br (decide (hiI l i < (l.length : Int))) (.chk (decide (0 ≤ hiI l i ∧ (hiI l i).toNat < l.length)) (.br (byteAt l (hiI l i).toNat == 36) (rowU l s (R (cuI l i)).1 b true (swA (hiI l i))) (rowU l s (R (cuI l i)).1 b false (hiI l i)))) (rowU l s (R (cuI l i)).1 b false (hiI l i))))))
def rdU (U : List UInt8 → List UInt8 × Int) (okc : List UInt8 → Bool) (R : List UInt8 → Int × Int) (l : List UInt8) : Ans :=
  .br (l == [35, 82, 69, 70, 33]) (.ret (.tuple [.agg [.str [], .int .i64 0, .int .i64 0, .bool false, .bool false, .bool true], .int .i64 0]) [])
    (.chk (decide (l.length ≤ 1000000)) (.br (decide ((U l).2 < 0)) (noRefE 20) (.br (decide ((U l).2 < (l.length : Int))) (.chk (decide (0 ≤ (U l).2 ∧ (U l).2.toNat < l.length)) (.br (byteAt l (U l).2.toNat == 36) (colU okc R l (U l).1 true (swA (U l).2)) (colU okc R l (U l).1 false (U l).2))) (colU okc R l (U l).1 false (U l).2))))
theorem readD_comes (U : List UInt8 → List UInt8 × Int) (L : Int → Bool) (okc : List UInt8 → Bool) (R : List UInt8 → Int × Int) (l : List UInt8) :
    Comes (tabRd U L okc R letN rowI) lvRd 10 [.str l] [] (rdU U okc R l) := by unfold Comes; kernel_rfl
end Go.Proofs.YtanhlbdcjonaoaaGreatDoor

/- Layer 2: what is a text by the document's own answer is one by the program. -/
set_option linter.unusedVariables false
set_option linter.unusedSimpArgs false
namespace Go.Proofs.YtanhlbdcjonaoaaGreatDoor
open Go Sx

theorem tab_same : ((List.range 256).all fun b => (sizeN b == 0) || (Lib.firstT b % 8 == sizeN b && Lib.accLo (Lib.firstT b / 16) == loN b && Lib.accHi (Lib.firstT b / 16) == hiN b)) = true := by kernel_rfl
theorem check_sign (L : List UInt8) (h0 : 128 ≤ (L.getD 0 0).toNat) (hk : signN L ≠ 0) :
    Lib.checkN L.length (L.getD 1 0).toNat (L.getD 2 0).toNat (L.getD 3 0).toNat (Lib.firstT (L.getD 0 0).toNat % 8) (Lib.accLo (Lib.firstT (L.getD 0 0).toNat / 16)) (Lib.accHi (Lib.firstT (L.getD 0 0).toNat / 16)) = some (signN L) := by
  have hz := sizeN_cases (L.getD 0 0).toNat
  have hne : L ≠ [] := fun e => hk (by unfold signN; rw [if_pos e])
  have ht := List.all_eq_true.1 tab_same (L.getD 0 0).toNat (List.mem_range.2 (UInt8.toNat_lt _))
  unfold signN at hk ⊢
  rw [if_neg hne, if_neg (by omega)] at hk ⊢
  generalize (L.getD 0 0).toNat = b at *
  generalize (L.getD 1 0).toNat = b1 at *
  generalize (L.getD 2 0).toNat = b2 at *
  generalize (L.getD 3 0).toNat = b3 at *
  generalize L.length = n at *
  have hz0 : sizeN b ≠ 0 := fun e => hk (by rw [if_pos e])
  simp only [Bool.or_eq_true, beq_iff_eq, Bool.and_eq_true] at ht
  rcases ht with ht | ⟨⟨e1, e2⟩, e3⟩
  · exact absurd ht hz0
  rw [e1, e2, e3]
  generalize sizeN b = z at *
  generalize loN b = lo at *
  generalize hiN b = hi at *
  unfold Lib.checkN
  rcases hz with rfl | rfl | rfl | rfl
  · exact absurd rfl hz0
  all_goals
    simp only [Nat.reduceEqDiff, if_false, if_true] at hk ⊢
    repeat' split at hk
    all_goals first | exact absurd rfl hk | skip
    all_goals (repeat' split)
    all_goals first | rfl | (exfalso; omega)
theorem sign_width (L : List UInt8) (h0 : 128 ≤ (L.getD 0 0).toNat) (hk : signN L ≠ 0) : (Lib.decodeL L).2 = signN L := by
  have hne : L ≠ [] := fun e => hk (by unfold signN; rw [if_pos e])
  have hc := check_sign L h0 hk
  rw [Lib.decodeL_N]
  rcases Lib.check_decode L.length (L.getD 0 0).toNat (L.getD 1 0).toNat (L.getD 2 0).toNat (L.getD 3 0).toNat (List.length_pos_iff.2 hne) h0 (UInt8.toNat_lt _) (UInt8.toNat_lt _) (UInt8.toNat_lt _) (UInt8.toNat_lt _) with ⟨h1, _⟩ | ⟨k, _, h1, h2⟩
  · rw [hc] at h1; cases h1
  · rw [hc] at h1; cases h1; exact h2

theorem text_of (l : List UInt8) : ∀ (n p : Nat), l.length ≤ p + n → txtB l n p = true → ctlB l n p = true ∧ Lib.validD (l.drop p) = true
  | 0, p, hn, _ => ⟨rfl, by rw [List.drop_of_length_le (by omega)]; rfl⟩
  | n + 1, p, hn, h => by
    simp only [txtB, ctlB] at h ⊢
    by_cases hp : p < l.length
    · rw [bcT (b := decide (p < l.length)) (decide_eq_true hp)] at h ⊢
      have hnz : signN (l.drop p) ≠ 0 := fun e => by rw [bcT (b := (signN (l.drop p) == 0)) (beq_iff_eq.2 e)] at h; cases h
      rw [bcF (b := (signN (l.drop p) == 0)) (beq_eq_false_iff_ne.2 hnz)] at h
      have h32 : ¬ (l.getD p 0).toNat < 32 := fun e => by rw [bcT (b := decide ((l.getD p 0).toNat < 32)) (decide_eq_true e)] at h; cases h
      rw [bcF (b := decide ((l.getD p 0).toNat < 32)) (decide_eq_false h32)] at h
      have h127 : (l.getD p 0).toNat ≠ 127 := fun e => by rw [bcT (b := ((l.getD p 0).toNat == 127)) (beq_iff_eq.2 e)] at h; cases h
      rw [bcF (b := ((l.getD p 0).toNat == 127)) (beq_eq_false_iff_ne.2 h127)] at h
      have hL0 : ((l.drop p).getD 0 0).toNat = (l.getD p 0).toNat := by simp [List.getD_eq_getElem?_getD]
      have hdl : Lib.decodeL (l.drop p) = Utf8.decode ⟨l.toArray⟩ p := Lib.decodeL_drop ⟨l.toArray⟩ p
      have hLne : l.drop p ≠ [] := by simp; omega
      have hwr : (Utf8.decode ⟨l.toArray⟩ p).2 = signN (l.drop p) ∧ 32 ≤ (Utf8.decode ⟨l.toArray⟩ p).1 ∧ (Utf8.decode ⟨l.toArray⟩ p).1 ≠ 127 ∧ ¬ ((Utf8.decode ⟨l.toArray⟩ p).1 = 65533 ∧ (Utf8.decode ⟨l.toArray⟩ p).2 = 1) := by
        have hsz : p < (⟨l.toArray⟩ : ByteArray).size := by simpa [ByteArray.size] using hp
        have hby : ((⟨l.toArray⟩ : ByteArray)[p]'hsz).toNat = (l.getD p 0).toNat := by
          show (l.toArray[p]'(by simpa using hp)).toNat = _
          simp [List.getD_eq_getElem?_getD, List.getElem?_eq_getElem hp]
        by_cases hlt : (l.getD p 0).toNat < 128
        · rw [decode_ascii ⟨l.toArray⟩ p hsz (by rw [hby]; exact hlt), hby]
          refine ⟨?_, by simp only; omega, h127, by simp only; omega⟩
          unfold signN
          rw [if_neg hLne, if_pos (by rw [hL0]; exact hlt)]
        · have hw := sign_width (l.drop p) (by rw [hL0]; omega) hnz
          rw [hdl] at hw
          have hh := (decode_high ⟨l.toArray⟩ p hsz (by rw [hby]; omega)).1
          refine ⟨hw, by omega, by omega, fun ⟨_, e⟩ => ?_⟩
          have hz : signN (l.drop p) = 1 := by rw [← hw]; exact e
          unfold signN at hz
          rw [if_neg hLne, if_neg (by rw [hL0]; exact hlt)] at hz
          repeat' split at hz
          all_goals omega
      obtain ⟨hw, h1, h2, h3⟩ := hwr
      rw [bcF (b := decide (((Utf8.decode ⟨l.toArray⟩ p).1 : Int) < 32)) (decide_eq_false (by omega)), bcF (b := (((Utf8.decode ⟨l.toArray⟩ p).1 : Int) == 127)) (beq_eq_false_iff_ne.2 (by omega)), hw]
      have ih := text_of l n (p + signN (l.drop p)) (by omega) h
      refine ⟨ih.1, ?_⟩
      rw [Lib.validD_step _ hLne, hdl, if_neg h3, hw, List.drop_drop]
      exact ih.2
    · rw [bcF (b := decide (p < l.length)) (decide_eq_false hp)]
      exact ⟨rfl, by rw [List.drop_of_length_le (by omega)]; rfl⟩

/-- A name that is right by the document's own answer is right by the program. -/
theorem name_sheet {l : List UInt8} (h : nameB l = true) : sheetB l = true := by
  simp only [nameB, Bool.and_eq_true, decide_eq_true_eq] at h
  obtain ⟨⟨h1, h2⟩, h3⟩ := h
  obtain ⟨k1, k2⟩ := text_of l l.length 0 (by omega) h1
  have hne : l ≠ [] := List.length_pos_iff.1 h2
  simp [sheetB, textB, k1, h3, hne]
  simpa using k2

end Go.Proofs.YtanhlbdcjonaoaaGreatDoor

/- Layer 2: what is a text by the program's test is one by the document's own answer. -/
set_option linter.unusedVariables false
set_option linter.unusedSimpArgs false
namespace Go.Proofs.YtanhlbdcjonaoaaGreatDoor
open Go Sx

theorem tab_none : ((List.range 256).all fun b => !(sizeN b == 0) || decide (b < 128) || !(Lib.firstT b % 8 == 2 || Lib.firstT b % 8 == 3 || Lib.firstT b % 8 == 4)) = true := by kernel_rfl
theorem sign_none (L : List UInt8) (h0 : 128 ≤ (L.getD 0 0).toNat) (hne : L ≠ []) (hk : signN L = 0) :
    Lib.checkN L.length (L.getD 1 0).toNat (L.getD 2 0).toNat (L.getD 3 0).toNat (Lib.firstT (L.getD 0 0).toNat % 8) (Lib.accLo (Lib.firstT (L.getD 0 0).toNat / 16)) (Lib.accHi (Lib.firstT (L.getD 0 0).toNat / 16)) = none := by
  have hz := sizeN_cases (L.getD 0 0).toNat
  have ht := List.all_eq_true.1 tab_same (L.getD 0 0).toNat (List.mem_range.2 (UInt8.toNat_lt _))
  have hs := List.all_eq_true.1 tab_none (L.getD 0 0).toNat (List.mem_range.2 (UInt8.toNat_lt _))
  unfold signN at hk
  rw [if_neg hne, if_neg (by omega)] at hk
  generalize (L.getD 0 0).toNat = b at *
  generalize (L.getD 1 0).toNat = b1 at *
  generalize (L.getD 2 0).toNat = b2 at *
  generalize (L.getD 3 0).toNat = b3 at *
  generalize L.length = n at *
  simp only [Bool.or_eq_true, beq_iff_eq, Bool.and_eq_true, Bool.not_eq_true', Bool.or_eq_false_iff, beq_eq_false_iff_ne, decide_eq_true_eq] at ht hs
  rcases ht with ht | ⟨⟨e1, e2⟩, e3⟩
  · rcases hs with (hs | hs) | hs
    · exact absurd ht hs
    · omega
    · unfold Lib.checkN
      rw [if_neg hs.1.1, if_neg hs.1.2, if_neg hs.2]
  · rw [e1, e2, e3]
    generalize sizeN b = z at *
    generalize loN b = lo at *
    generalize hiN b = hi at *
    unfold Lib.checkN
    rcases hz with rfl | rfl | rfl | rfl
    · rfl
    all_goals
      simp only [Nat.reduceEqDiff, if_false, if_true] at hk ⊢
      repeat' split at hk
      all_goals first | (exfalso; omega) | skip
      all_goals (repeat' split)
      all_goals first | rfl | (exfalso; omega)
theorem sign_of_valid (L : List UInt8) (h0 : 128 ≤ (L.getD 0 0).toNat) (hne : L ≠ []) (hv : ¬ ((Lib.decodeL L).1 = 65533 ∧ (Lib.decodeL L).2 = 1)) : signN L ≠ 0 := by
  intro hk
  have hc := sign_none L h0 hne hk
  rw [Lib.decodeL_N] at hv
  rcases Lib.check_decode L.length (L.getD 0 0).toNat (L.getD 1 0).toNat (L.getD 2 0).toNat (L.getD 3 0).toNat (List.length_pos_iff.2 hne) h0 (UInt8.toNat_lt _) (UInt8.toNat_lt _) (UInt8.toNat_lt _) (UInt8.toNat_lt _) with ⟨_, h2⟩ | ⟨k, _, h1, _⟩
  · exact hv ⟨by rw [h2], by rw [h2]⟩
  · rw [hc] at h1; cases h1
theorem text_back (l : List UInt8) : ∀ (n p : Nat), l.length ≤ p + n → ctlB l n p = true → Lib.validD (l.drop p) = true → txtB l n p = true
  | 0, p, hn, _, _ => rfl
  | n + 1, p, hn, h, hv => by
    simp only [txtB, ctlB] at h ⊢
    by_cases hp : p < l.length
    · rw [bcT (b := decide (p < l.length)) (decide_eq_true hp)] at h ⊢
      have hLne : l.drop p ≠ [] := by simp; omega
      have hL0 : ((l.drop p).getD 0 0).toNat = (l.getD p 0).toNat := by simp [List.getD_eq_getElem?_getD]
      have hdl : Lib.decodeL (l.drop p) = Utf8.decode ⟨l.toArray⟩ p := Lib.decodeL_drop ⟨l.toArray⟩ p
      rw [Lib.validD_step _ hLne, hdl] at hv
      have hne : ¬ ((Utf8.decode ⟨l.toArray⟩ p).1 = 65533 ∧ (Utf8.decode ⟨l.toArray⟩ p).2 = 1) := fun e => by rw [if_pos e] at hv; cases hv
      rw [if_neg hne, List.drop_drop] at hv
      have h32 : ¬ ((Utf8.decode ⟨l.toArray⟩ p).1 : Int) < 32 := fun e => by rw [bcT (b := decide (((Utf8.decode ⟨l.toArray⟩ p).1 : Int) < 32)) (decide_eq_true e)] at h; cases h
      rw [bcF (b := decide (((Utf8.decode ⟨l.toArray⟩ p).1 : Int) < 32)) (decide_eq_false h32)] at h
      have h127 : ((Utf8.decode ⟨l.toArray⟩ p).1 : Int) ≠ 127 := fun e => by rw [bcT (b := (((Utf8.decode ⟨l.toArray⟩ p).1 : Int) == 127)) (beq_iff_eq.2 e)] at h; cases h
      rw [bcF (b := (((Utf8.decode ⟨l.toArray⟩ p).1 : Int) == 127)) (beq_eq_false_iff_ne.2 h127)] at h
      have hsz : p < (⟨l.toArray⟩ : ByteArray).size := by simpa [ByteArray.size] using hp
      have hby : ((⟨l.toArray⟩ : ByteArray)[p]'hsz).toNat = (l.getD p 0).toNat := by
        show (l.toArray[p]'(by simpa using hp)).toNat = _
        simp [List.getD_eq_getElem?_getD, List.getElem?_eq_getElem hp]
      have hw : signN (l.drop p) ≠ 0 ∧ (Utf8.decode ⟨l.toArray⟩ p).2 = signN (l.drop p) ∧ ¬ (l.getD p 0).toNat < 32 ∧ (l.getD p 0).toNat ≠ 127 := by
        by_cases hlt : (l.getD p 0).toNat < 128
        · have hd := decode_ascii ⟨l.toArray⟩ p hsz (by rw [hby]; exact hlt)
          rw [hby] at hd
          rw [hd] at h32 h127 ⊢
          have hs : signN (l.drop p) = 1 := by
            unfold signN
            rw [if_neg hLne, if_pos (by rw [hL0]; exact hlt)]
          rw [hs]
          simp only at h32 h127
          exact ⟨by omega, rfl, by omega, by omega⟩
        · have hs := sign_of_valid (l.drop p) (by rw [hL0]; omega) hLne (by rw [hdl]; exact hne)
          have hwd := sign_width (l.drop p) (by rw [hL0]; omega) hs
          rw [hdl] at hwd
          exact ⟨hs, hwd, by omega, by omega⟩
      rw [bcF (b := (signN (l.drop p) == 0)) (beq_eq_false_iff_ne.2 hw.1), bcF (b := decide ((l.getD p 0).toNat < 32)) (decide_eq_false hw.2.2.1), bcF (b := ((l.getD p 0).toNat == 127)) (beq_eq_false_iff_ne.2 hw.2.2.2)]
      rw [hw.2.1] at h hv
      exact text_back l n (p + signN (l.drop p)) (by omega) h hv
    · rw [bcF (b := decide (p < l.length)) (decide_eq_false hp)]
/-- A name is right by the program just if it is by the document's own answer. -/
theorem sheet_name (l : List UInt8) : sheetB l = nameB l := by
  cases h : nameB l with
  | true => exact name_sheet h
  | false =>
    cases h2 : sheetB l with
    | false => rfl
    | true =>
      exfalso
      unfold sheetB textB at h2
      simp only [Bool.and_eq_true, Bool.not_eq_true', beq_eq_false_iff_ne, decide_eq_true_eq] at h2
      obtain ⟨⟨h3, h4⟩, h5, h6⟩ := h2
      have := text_back l l.length 0 (by omega) h5 (by simpa using h6)
      unfold nameB at h
      rw [this, decide_eq_true (List.length_pos_iff.2 h3), decide_eq_true h4] at h
      cases h
end Go.Proofs.YtanhlbdcjonaoaaGreatDoor

/- Layer 2: references, read: any text, but for its column's letters and its row's digits. -/
set_option linter.unusedVariables false
set_option linter.unusedSimpArgs false
namespace Go.Proofs.YtanhlbdcjonaoaaGreatDoor
open Go Sx

def noRef : Ans := .ret (.tuple [.agg [.str [], .int .i64 0, .int .i64 0, .bool false, .bool false, .bool false], .int .i64 20]) []
def lenP (t : List UInt8 → List UInt8) (R : List UInt8) : Int := IntKind.i64.wrap ((R.length : Int) - ((t R).length : Int))
def hdP (t : List UInt8 → List UInt8) (R : List UInt8) : List UInt8 := List.take ((lenP t R).toNat - 0) (List.drop 0 R)
def rowT (td : List UInt8 → List UInt8) (okr : List UInt8 → Bool) (rr : List UInt8 → Int × Bool) (s : List UInt8) (C : Int × Int) (b a : Bool) (R : List UInt8) : Ans :=
  .br (decide (R.length ≤ 9223372036854775807)) (.br (decide (0 ≤ lenP td R ∧ (lenP td R).toNat ≤ R.length)) (.br (okr (hdP td R)) (.br (C.2 != 0) noRef (.br (!(rr (hdP td R)).2) noRef (.br (!(td R == [])) noRef
    (.ret (.tuple [.agg [.str s, .int .i64 (rr (hdP td R)).1, .int .i64 C.1, .bool a, .bool b, .bool false], .int .i64 0]) [])))) .fail) .fail) .fail
def colT (tl td : List UInt8 → List UInt8) (okc : List UInt8 → Bool) (rc : List UInt8 → Int × Int) (okr : List UInt8 → Bool) (rr : List UInt8 → Int × Bool) (s : List UInt8) (b : Bool) (R : List UInt8) : Ans :=
  .br (decide (R.length ≤ 9223372036854775807)) (.br (decide (0 ≤ lenP tl R ∧ (lenP tl R).toNat ≤ R.length)) (.br (okc (hdP tl R))
    (.br (cpB 36 (tl R)) (rowT td okr rr s (rc (hdP tl R)) b true ((tl R).drop 1)) (rowT td okr rr s (rc (hdP tl R)) b false (tl R))) .fail) .fail) .fail
def rdT (cs : List UInt8 → List UInt8 × List UInt8 × Bool) (tl td : List UInt8 → List UInt8) (okc : List UInt8 → Bool) (rc : List UInt8 → Int × Int) (okr : List UInt8 → Bool) (rr : List UInt8 → Int × Bool) (l : List UInt8) : Ans :=
  .br (l == [35, 82, 69, 70, 33]) (.ret (.tuple [.agg [.str [], .int .i64 0, .int .i64 0, .bool false, .bool false, .bool true], .int .i64 0]) [])
    (.br (decide (l.length ≤ 1000000)) (.br (!(cs l).2.2) noRef (.br (cpB 36 (cs l).2.1) (colT tl td okc rc okr rr (cs l).1 true ((cs l).2.1.drop 1)) (colT tl td okc rc okr rr (cs l).1 false (cs l).2.1))) .fail)
theorem read_comes (cs : List UInt8 → List UInt8 × List UInt8 × Bool) (tl td : List UInt8 → List UInt8) (okc : List UInt8 → Bool) (rc : List UInt8 → Int × Int) (okr : List UInt8 → Bool) (rr : List UInt8 → Int × Bool) (l : List UInt8) :
    Comes (tabE cs tl td okc rc okr rr) nolv 9 [.str l] [] (rdT cs tl td okc rc okr rr l) := by unfold Comes; kernel_rfl

/-- A part ahead, and what is behind. -/
def ahd (t : List UInt8 → List UInt8) (R : List UInt8) : List UInt8 := R.take (R.length - (t R).length)
def unfix (R : List UInt8) : List UInt8 := bcond (cpB 36 R) (R.drop 1) R
/-- The column's letters and the row's digits of a text. -/
def colP (cs : List UInt8 → List UInt8 × List UInt8 × Bool) (l : List UInt8) : List UInt8 := unfix (cs l).2.1
def rowP (cs : List UInt8 → List UInt8 × List UInt8 × Bool) (tl : List UInt8 → List UInt8) (l : List UInt8) : List UInt8 := unfix (tl (colP cs l))
def readS (cs : List UInt8 → List UInt8 × List UInt8 × Bool) (tl td : List UInt8 → List UInt8) (rc : List UInt8 → Int × Int) (rr : List UInt8 → Int × Bool) (l : List UInt8) : AV :=
  bcond (l == [35, 82, 69, 70, 33]) (.tuple [.agg [.str [], .int .i64 0, .int .i64 0, .bool false, .bool false, .bool true], .int .i64 0])
    (bcond ((cs l).2.2 && (rc (ahd tl (colP cs l))).2 == 0 && (rr (ahd td (rowP cs tl l))).2 && td (rowP cs tl l) == [])
      (.tuple [.agg [.str (cs l).1, .int .i64 (rr (ahd td (rowP cs tl l))).1, .int .i64 (rc (ahd tl (colP cs l))).1, .bool (cpB 36 (tl (colP cs l))), .bool (cpB 36 (cs l).2.1), .bool false], .int .i64 0])
      (.tuple [.agg [.str [], .int .i64 0, .int .i64 0, .bool false, .bool false, .bool false], .int .i64 20]))
theorem lenP_eq {t : List UInt8 → List UInt8} {R : List UInt8} (h : (t R).length ≤ R.length) (hR : R.length ≤ 9223372036854775807) : lenP t R = ((R.length - (t R).length : Nat) : Int) := by
  unfold lenP
  rw [i64_in (by omega) (by omega)]; omega
theorem hdP_eq {t : List UInt8 → List UInt8} {R : List UInt8} (h : (t R).length ≤ R.length) (hR : R.length ≤ 9223372036854775807) : hdP t R = ahd t R := by
  unfold hdP ahd
  rw [lenP_eq h hR, List.drop_zero]; rfl
def noV : AV := .tuple [.agg [.str [], .int .i64 0, .int .i64 0, .bool false, .bool false, .bool false], .int .i64 20]
theorem rowT_run {td : List UInt8 → List UInt8} {okr : List UInt8 → Bool} {rr : List UInt8 → Int × Bool} {s : List UInt8} {C : Int × Int} {b a : Bool} {R : List UInt8} (h : (td R).length ≤ R.length) (hR : R.length ≤ 9223372036854775807) (ho : okr (ahd td R) = true) :
    (rowT td okr rr s C b a R).run pure2 = pure2 (bcond (C.2 == 0 && (rr (ahd td R)).2 && td R == []) (.tuple [.agg [.str s, .int .i64 (rr (ahd td R)).1, .int .i64 C.1, .bool a, .bool b, .bool false], .int .i64 0]) noV) [] := by
  unfold rowT
  simp only [Ans.run, noRef]
  rw [bcT (b := decide (R.length ≤ 9223372036854775807)) (decide_eq_true hR), lenP_eq h hR, bcT (b := decide (0 ≤ ((R.length - (td R).length : Nat) : Int) ∧ _)) (by rw [decide_eq_true_eq]; omega), hdP_eq h hR, bcT ho]
  show bcond (!(C.2 == 0)) _ _ = _
  cases C.2 == 0 <;> cases (rr (ahd td R)).2 <;> cases td R == [] <;> rfl
theorem colT_run {tl td : List UInt8 → List UInt8} {okc : List UInt8 → Bool} {rc : List UInt8 → Int × Int} {okr : List UInt8 → Bool} {rr : List UInt8 → Int × Bool} {s : List UInt8} {b : Bool} {R : List UInt8} (h : ∀ R, (tl R).length ≤ R.length) (h' : ∀ R, (td R).length ≤ R.length) (hR : R.length ≤ 9223372036854775807)
    (ho : okc (ahd tl R) = true) (ho' : okr (ahd td (unfix (tl R))) = true) :
    (colT tl td okc rc okr rr s b R).run pure2 = pure2 (bcond ((rc (ahd tl R)).2 == 0 && (rr (ahd td (unfix (tl R)))).2 && td (unfix (tl R)) == []) (.tuple [.agg [.str s, .int .i64 (rr (ahd td (unfix (tl R)))).1, .int .i64 (rc (ahd tl R)).1, .bool (cpB 36 (tl R)), .bool b, .bool false], .int .i64 0]) noV) [] := by
  have h1 := h R
  unfold colT
  simp only [Ans.run]
  rw [bcT (b := decide (R.length ≤ 9223372036854775807)) (decide_eq_true hR), lenP_eq h1 hR, bcT (b := decide (0 ≤ ((R.length - (tl R).length : Nat) : Int) ∧ _)) (by rw [decide_eq_true_eq]; omega), hdP_eq h1 hR, bcT ho]
  unfold unfix at ho' ⊢
  cases hc : cpB 36 (tl R) with
  | true =>
    rw [hc] at ho'
    exact rowT_run (h' _) (by rw [List.length_drop]; omega) ho'
  | false =>
    rw [hc] at ho'
    exact rowT_run (h' _) (by omega) ho'
theorem rdT_run {cs : List UInt8 → List UInt8 × List UInt8 × Bool} {tl td : List UInt8 → List UInt8} {okc : List UInt8 → Bool} {rc : List UInt8 → Int × Int} {okr : List UInt8 → Bool} {rr : List UInt8 → Int × Bool} {l : List UInt8} (h : ∀ R, (tl R).length ≤ R.length) (h' : ∀ R, (td R).length ≤ R.length) (hl : l.length ≤ 1000000) (hc : (cs l).2.1.length ≤ l.length)
    (ho : okc (ahd tl (colP cs l)) = true) (ho' : okr (ahd td (rowP cs tl l)) = true) : (rdT cs tl td okc rc okr rr l).run pure2 = pure2 (readS cs tl td rc rr l) [] := by
  unfold rdT readS
  simp only [Ans.run, noRef]
  cases l == [35, 82, 69, 70, 33] with
  | true => rfl
  | false =>
    rw [bcT (b := decide (l.length ≤ 1000000)) (decide_eq_true hl)]
    cases h2 : (cs l).2.2 with
    | false => rfl
    | true =>
      unfold rowP at ho' ⊢
      unfold colP at ho ho' ⊢
      cases h3 : cpB 36 (cs l).2.1 with
      | true =>
        have hu : unfix (cs l).2.1 = (cs l).2.1.drop 1 := by unfold unfix; rw [h3]; rfl
        rw [hu] at ho ho' ⊢
        exact colT_run h h' (by rw [List.length_drop]; omega) ho ho'
      | false =>
        have hu : unfix (cs l).2.1 = (cs l).2.1 := by unfold unfix; rw [h3]; rfl
        rw [hu] at ho ho' ⊢
        exact colT_run h h' (by omega) ho ho'
end Go.Proofs.YtanhlbdcjonaoaaGreatDoor

/- Layer 2: what is written, read: the pieces. -/
set_option linter.unusedVariables false
set_option linter.unusedSimpArgs false
namespace Go.Proofs.YtanhlbdcjonaoaaGreatDoor
open Go Sx

/-- A byte's place, when it is not ahead. -/
theorem ixC_at (c : UInt8) : ∀ (a b : List UInt8), c ∉ a → ixC c (a ++ c :: b) = (a.length : Int)
  | [], b, _ => by simp [ixC, Lib.indexByte]
  | x :: a, b, h => by
    have hx : ¬ x = c := fun e => h (by rw [e]; exact List.mem_cons_self)
    have ih := ixC_at c a b (fun e => h (List.mem_cons_of_mem _ e))
    unfold ixC at ih
    simp only [ixC, List.cons_append, Lib.indexByte, List.length_cons]
    rw [ih]
    simp [hx]
theorem ixC_no (c : UInt8) : ∀ (a : List UInt8), c ∉ a → ixC c a = -1
  | [], _ => by simp [ixC, Lib.indexByte]
  | x :: a, h => by
    have hx : ¬ x = c := fun e => h (by rw [e]; exact List.mem_cons_self)
    have ih := ixC_no c a (fun e => h (List.mem_cons_of_mem _ e))
    unfold ixC at ih
    simp only [ixC, Lib.indexByte]
    rw [ih]
    simp [hx]
theorem dbl_app : ∀ (a b : List UInt8), 39 ∉ a → dblS (a ++ b) = a ++ dblS b
  | [], b, _ => rfl
  | x :: a, b, h => by
    have hx : ¬ x = 39 := fun e => h (by rw [e]; exact List.mem_cons_self)
    rw [List.cons_append, dblS, if_neg hx, dbl_app a b (fun e => h (List.mem_cons_of_mem _ e))]; rfl
theorem prt_at (a b : List UInt8) (h : (39 : UInt8) ∉ a) : prt (a ++ 39 :: b) = a ∧ bhd (a ++ 39 :: b) = b := by
  unfold prt bhd
  rw [ixC_at 39 a b h, Int.toNat_natCast]
  constructor
  · simp
  · rw [show a ++ 39 :: b = (a ++ [39]) ++ b by simp]; exact List.drop_left' (by simp)
/-- A name that was written between apostrophes is read as it was. -/
theorem cqF_dbl (f : List UInt8 → Bool) : ∀ (n : Nat) (s r acc : List UInt8), s.length < n → cqF f n (dblS s ++ 39 :: 33 :: r) acc = (acc ++ s, r, f (acc ++ s))
  | 0, s, r, acc, h => by omega
  | n + 1, s, r, acc, h => by
    by_cases hm : (39 : UInt8) ∈ s
    · obtain ⟨a, s', rfl, ha⟩ := List.eq_append_cons_of_mem hm
      have e : dblS (a ++ 39 :: s') ++ 39 :: 33 :: r = a ++ 39 :: (39 :: (dblS s' ++ 39 :: 33 :: r)) := by
        rw [dbl_app a _ ha, dblS, if_pos rfl]; simp
      rw [e]
      have hp := prt_at a (39 :: (dblS s' ++ 39 :: 33 :: r)) ha
      unfold cqF
      rw [hp.1, hp.2, ixC_at 39 a _ ha, bcT (b := decide ((a.length : Int) ≥ 0)) (decide_eq_true (by omega))]
      have h1 : cpB 33 (39 :: (dblS s' ++ 39 :: 33 :: r)) = false := rfl
      have h2 : cpB 39 (39 :: (dblS s' ++ 39 :: 33 :: r)) = true := rfl
      rw [h1, h2, bcF rfl, bcT rfl]
      have := cqF_dbl f n s' r (acc ++ a ++ [39]) (by simp only [List.length_append, List.length_cons] at h; omega)
      rw [show List.drop 1 (39 :: (dblS s' ++ 39 :: 33 :: r)) = dblS s' ++ 39 :: 33 :: r from rfl, this]
      simp
    · have e : dblS s = s := dbl_none s (List.count_eq_zero.2 hm)
      rw [e]
      have hp := prt_at s (33 :: r) hm
      unfold cqF
      rw [hp.1, hp.2, ixC_at 39 s _ hm, bcT (b := decide ((s.length : Int) ≥ 0)) (decide_eq_true (by omega))]
      rfl
theorem dbl_len_le : ∀ (s : List UInt8), s.length ≤ (dblS s).length
  | [] => Nat.le_refl _
  | x :: s => by
    have := dbl_len_le s
    rw [dblS]
    split <;> simp only [List.length_cons] <;> omega
theorem csS_quoted (s r : List UInt8) : csS (39 :: (dblS s ++ 39 :: 33 :: r)) = (s, r, sheetB s) := by
  unfold csS csF
  rw [show cpB 39 (39 :: (dblS s ++ 39 :: 33 :: r)) = true from rfl, bcT rfl]
  show cqF sheetB ((dblS s ++ 39 :: 33 :: r).length + 1) (dblS s ++ 39 :: 33 :: r) [] = _
  have := dbl_len_le s
  rw [cqF_dbl sheetB _ s r [] (by simp only [List.length_append, List.length_cons]; omega)]
  rfl
end Go.Proofs.YtanhlbdcjonaoaaGreatDoor

/- Layer 2: what is written, read: signs below 128. -/
set_option linter.unusedVariables false
set_option linter.unusedSimpArgs false
namespace Go.Proofs.YtanhlbdcjonaoaaGreatDoor
open Go Sx

theorem decN_low {n a b c d : Nat} (h : (Lib.decodeN n a b c d).1 < 128) : a < 128 := by
  unfold Lib.decodeN at h
  repeat' split at h
  all_goals first | assumption | (exfalso; simp only at h; omega)
theorem rune_asc {l : List UInt8} {p : Nat} (hp : p < l.length) (h : (l[p]).toNat < 128) : runeAt l p = ((l[p]).toNat : Int) ∧ (Utf8.decode ⟨l.toArray⟩ p).2 = 1 := by
  have hs : p < (⟨l.toArray⟩ : ByteArray).size := by simpa [ByteArray.size] using hp
  have := Go.decode_ascii ⟨l.toArray⟩ p hs h
  unfold runeAt
  rw [this]
  exact ⟨rfl, rfl⟩
theorem rune_low {l : List UInt8} {p : Nat} (hp : p < l.length) (h : runeAt l p < 128) : (l[p]).toNat < 128 := by
  have hs : p < (⟨l.toArray⟩ : ByteArray).size := by simpa [ByteArray.size] using hp
  unfold runeAt at h
  rw [Lib.decode_at] at h
  have := decN_low (Int.ofNat_lt.1 h)
  have e : (⟨l.toArray⟩ : ByteArray).get! p = l[p] := by
    show (l.toArray)[p]! = _
    simp [hp]
  rwa [e] at this
theorem scan_stop (f : Int → Bool) (c : UInt8) (b : List UInt8) (hc : c.toNat < 128) (hf : f c.toNat = false) : ∀ (a pre : List UInt8) (n : Nat), a.length < n → (∀ x ∈ a, x.toNat < 128 ∧ f x.toNat = true) → scanF f (pre ++ (a ++ c :: b)) n pre.length = some (pre.length + a.length)
  | [], pre, n + 1, _, _ => by
    have hp : pre.length < (pre ++ ([] ++ c :: b)).length := by simp
    have hg : (pre ++ ([] ++ c :: b))[pre.length] = c := by simp
    have hr := rune_asc hp (by rw [hg]; exact hc)
    simp only [scanF]
    rw [bcT (b := decide (pre.length < _)) (decide_eq_true hp), hr.1, hg, hf]; rfl
  | x :: a, pre, n + 1, hn, ha => by
    have hp : pre.length < (pre ++ (x :: a ++ c :: b)).length := by simp
    have hg : (pre ++ (x :: a ++ c :: b))[pre.length] = x := by simp
    have hx := ha x List.mem_cons_self
    have hr := rune_asc hp (by rw [hg]; exact hx.1)
    have ih := scan_stop f c b hc hf a (pre ++ [x]) n (by simp only [List.length_cons] at hn; omega) (fun y hy => ha y (List.mem_cons_of_mem _ hy))
    simp only [scanF]
    rw [bcT (b := decide (pre.length < _)) (decide_eq_true hp), hr.1, hg, hx.2, hr.2]
    show scanF f _ n (pre.length + 1) = _
    rw [show pre ++ (x :: a ++ c :: b) = (pre ++ [x]) ++ (a ++ c :: b) by simp, show pre.length + 1 = (pre ++ [x]).length by simp, ih]
    simp; omega
theorem scan_end (f : Int → Bool) : ∀ (a pre : List UInt8) (n : Nat), (∀ x ∈ a, x.toNat < 128 ∧ f x.toNat = true) → scanF f (pre ++ a) n pre.length = none
  | _, _, 0, _ => rfl
  | [], pre, n + 1, _ => by
    simp only [scanF]
    rw [bcF (b := decide (pre.length < _)) (by simp)]
  | x :: a, pre, n + 1, ha => by
    have hp : pre.length < (pre ++ (x :: a)).length := by simp
    have hg : (pre ++ (x :: a))[pre.length] = x := by simp
    have hx := ha x List.mem_cons_self
    have hr := rune_asc hp (by rw [hg]; exact hx.1)
    have ih := scan_end f a (pre ++ [x]) n (fun y hy => ha y (List.mem_cons_of_mem _ hy))
    simp only [scanF]
    rw [bcT (b := decide (pre.length < _)) (decide_eq_true hp), hr.1, hg, hx.2, hr.2]
    show scanF f _ n (pre.length + 1) = _
    rw [show pre ++ (x :: a) = (pre ++ [x]) ++ a by simp, show pre.length + 1 = (pre ++ [x]).length by simp, ih]
/-- Signs that are so are trimmed, up to one that is not. -/
theorem trim_stop {f : Int → Bool} {c : UInt8} {a b : List UInt8} (hc : c.toNat < 128) (hf : f c.toNat = false) (ha : ∀ x ∈ a, x.toNat < 128 ∧ f x.toNat = true) : trimF f (a ++ c :: b) = c :: b := by
  have := scan_stop f c b hc hf a [] (a ++ c :: b).length (by simp) ha
  simp only [List.nil_append, List.length_nil, Nat.zero_add] at this
  unfold trimF
  rw [this]
  simp [bcond]
theorem trim_end {f : Int → Bool} {a : List UInt8} (ha : ∀ x ∈ a, x.toNat < 128 ∧ f x.toNat = true) : trimF f a = [] := by
  have := scan_end f a [] a.length ha
  simp only [List.nil_append, List.length_nil] at this
  unfold trimF
  rw [this]; rfl
/-- A plain name has letters, digits and _ alone. -/
theorem plain_bytes : ∀ (n : Nat) (l : List UInt8) (p : Nat), l.length ≤ n + p → plainF l n p = true → ∀ k (hk : k < l.length), p ≤ k → l[k] ≠ 33 ∧ l[k] ≠ 39
  | 0, l, p, h1, _, k, hk, h2 => by omega
  | n + 1, l, p, h1, h, k, hk, h2 => by
    have hp : p < l.length := by omega
    simp only [plainF] at h
    rw [bcT (b := decide (p < l.length)) (decide_eq_true hp)] at h
    cases h3 : plainAt l p with
    | false => rw [h3] at h; cases h
    | true =>
      rw [h3] at h
      have h4 : (65 ≤ runeAt l p ∧ runeAt l p ≤ 90) ∨ (97 ≤ runeAt l p ∧ runeAt l p ≤ 122) ∨ runeAt l p = 95 ∨ (48 ≤ runeAt l p ∧ runeAt l p ≤ 57) := by
        unfold plainAt at h3
        cases e1 : letB (runeAt l p) with
        | true => unfold letB at e1; have := of_decide_eq_true e1; omega
        | false =>
          cases e2 : runeAt l p == 95 with
          | true => have := beq_iff_eq.1 e2; omega
          | false =>
            cases e3 : digB (runeAt l p) with
            | true => unfold digB at e3; have := of_decide_eq_true e3; omega
            | false => rw [e1, e2, e3] at h3; cases h3
      have h5 := rune_low hp (by omega)
      have h6 := rune_asc hp h5
      by_cases hkp : k = p
      · subst hkp
        refine ⟨fun e => ?_, fun e => ?_⟩
        · have : (l[k]).toNat = 33 := by rw [e]; rfl
          omega
        · have : (l[k]).toNat = 39 := by rw [e]; rfl
          omega
      · have h7 : plainF l n (p + (Utf8.decode ⟨l.toArray⟩ p).2) = true := h
        rw [h6.2] at h7
        exact plain_bytes n l (p + 1) (by omega) h7 k hk (by omega)
end Go.Proofs.YtanhlbdcjonaoaaGreatDoor
