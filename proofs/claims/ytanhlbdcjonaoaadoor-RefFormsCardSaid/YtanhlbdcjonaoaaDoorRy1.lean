/- Layer 2: texts that are cut. -/
import Derived.Test.YtanhlbdcjonaoaaDoorRdV
import Derived.Test.YtanhlbdcjonaoaaDoorRdY
import Derived.Test.YtanhlbdcjonaoaaDoorRdF
import Derived.Test.YtanhlbdcjonaoaaDoorRdS
import Derived.Lib.DecodeN
import Derived.Laws.RangeString
set_option linter.unusedVariables false
set_option linter.unusedSimpArgs false
namespace Go.Proofs.YtanhlbdcjonaoaaDoor
open Go Sx

/-- Does a text begin with a byte? -/
def cpB (c : UInt8) (x : List UInt8) : Bool := x.take 1 == [c]
def cpAns (c : UInt8) (x : List UInt8) : Ans := .br (cpB c x) (.ret (.tuple [.str (x.drop 1), .bool true]) []) (.ret (.tuple [.str x, .bool false]) [])
def eCutP : Ent := fun args pre => match args, pre with
  | [.str x, .str [33]], [] => cpAns 33 x
  | [.str x, .str [36]], [] => cpAns 36 x
  | [.str x, .str [39]], [] => cpAns 39 x
  | _, _ => .fail
def cpT (c : UInt8) (x : List UInt8) : Ans :=
  .br (decide ((x.length : Int) ≥ ((1 : Nat) : Int))) (.br (decide (0 ≤ ((1 : Nat) : Int) ∧ ((1 : Nat) : Int).toNat ≤ x.length)) (.br (!(List.take (((1 : Nat) : Int).toNat - 0) (List.drop 0 x) == [c])) (.ret (.tuple [.str x, .bool false]) [])
    (.br (decide (0 ≤ ((1 : Nat) : Int) ∧ ((1 : Nat) : Int).toNat ≤ x.length)) (.ret (.tuple [.str (List.take (x.length - ((1 : Nat) : Int).toNat) (List.drop ((1 : Nat) : Int).toNat x)), .bool true]) []) .fail)) .fail) (.ret (.tuple [.str x, .bool false]) [])
theorem cp_run (c : UInt8) (x : List UInt8) (r : AV × List PObj) (h : (cpAns c x).run pure2 = some r) : (cpT c x).run pure2 = some r := by
  rw [← h]
  simp only [cpT, cpAns, Ans.run, cpB]
  cases x with
  | nil => rfl
  | cons a l =>
    have h1 : ((a :: l).length : Int) ≥ ((1 : Nat) : Int) := by simp only [List.length_cons]; omega
    have h2 : 0 ≤ ((1 : Nat) : Int) ∧ ((1 : Nat) : Int).toNat ≤ (a :: l).length := by simp only [List.length_cons]; omega
    rw [bcT (b := decide (((a :: l).length : Int) ≥ ((1 : Nat) : Int))) (decide_eq_true h1), bcT (b := decide (0 ≤ ((1 : Nat) : Int) ∧ _)) (decide_eq_true h2), bcT (b := decide (0 ≤ ((1 : Nat) : Int) ∧ _)) (decide_eq_true h2)]
    have e : List.take ((a :: l).length - ((1 : Nat) : Int).toNat) (List.drop ((1 : Nat) : Int).toNat (a :: l)) = List.drop 1 (a :: l) := List.take_of_length_le (by simp)
    rw [e]
    show bcond (!(List.take 1 (a :: l) == [c])) _ _ = _
    cases (List.take 1 (a :: l) == [c]) <;> rfl
theorem cutP_ok : EntOK Tryd.prog 34 eCutP := fun args pre => by
  unfold eCutP
  split
  · rename_i x
    have e : Comes tab0 nolv 34 [.str x, .str [33]] [] (cpT 33 x) := by unfold Comes; kernel_rfl
    exact of_run (ans_comes tab0_ok e) fun r h => cp_run 33 x r h
  · rename_i x
    have e : Comes tab0 nolv 34 [.str x, .str [36]] [] (cpT 36 x) := by unfold Comes; kernel_rfl
    exact of_run (ans_comes tab0_ok e) fun r h => cp_run 36 x r h
  · rename_i x
    have e : Comes tab0 nolv 34 [.str x, .str [39]] [] (cpT 39 x) := by unfold Comes; kernel_rfl
    exact of_run (ans_comes tab0_ok e) fun r h => cp_run 39 x r h
  · trivial

/-- A text in two, at a byte. -/
def ixC (c : UInt8) (x : List UInt8) : Int := Lib.indexByte x c
def ctAns (c : UInt8) (x : List UInt8) : Ans := .chk (decide (x.length ≤ 1000000)) (.br (decide (ixC c x ≥ 0)) (.ret (.tuple [.str (x.take (ixC c x).toNat), .str (x.drop ((ixC c x).toNat + 1)), .bool true]) []) (.ret (.tuple [.str x, .str [], .bool false]) []))
def eCut : Ent := fun args pre => match args, pre with
  | [.str x, .str [33]], [] => ctAns 33 x
  | [.str x, .str [39]], [] => ctAns 39 x
  | _, _ => .fail
def w1 (a : Int) : Int := IntKind.i64.wrap (a + ((1 : Nat) : Int))
def ctT (c : UInt8) (x : List UInt8) : Ans :=
  .br ([c] == x) (.br (decide (0 ≤ w1 0 ∧ (w1 0).toNat ≤ x.length)) (.ret (.tuple [.str (List.take (Int.toNat 0 - 0) (List.drop 0 x)), .str (List.take (x.length - (w1 0).toNat) (List.drop (w1 0).toNat x)), .bool true]) []) .fail)
    (.br (decide (ixC c x ≥ 0)) (.br (decide (0 ≤ ixC c x ∧ (ixC c x).toNat ≤ x.length)) (.br (decide (0 ≤ w1 (ixC c x) ∧ (w1 (ixC c x)).toNat ≤ x.length))
      (.ret (.tuple [.str (List.take ((ixC c x).toNat - 0) (List.drop 0 x)), .str (List.take (x.length - (w1 (ixC c x)).toNat) (List.drop (w1 (ixC c x)).toNat x)), .bool true]) []) .fail) .fail) (.ret (.tuple [.str x, .str [], .bool false]) []))
theorem ct_run (c : UInt8) (x : List UInt8) (r : AV × List PObj) (h : (ctAns c x).run pure2 = some r) : (ctT c x).run pure2 = some r := by
  obtain ⟨hl, h⟩ := chk_run h
  have hl := of_decide_eq_true hl
  rw [← h]
  simp only [ctT, Ans.run]
  have w0 : w1 0 = 1 := rfl
  cases he : ([c] == x) with
  | true =>
    have : x = [c] := (beq_iff_eq.1 he).symm
    subst this
    have hi : ixC c [c] = 0 := by unfold ixC Lib.indexByte; simp
    rw [hi, w0]
    rfl
  | false =>
    by_cases h0 : ixC c x ≥ 0
    · obtain ⟨o, ho⟩ : ∃ o : Nat, ixC c x = o := ⟨(ixC c x).toNat, by omega⟩
      obtain ⟨h1, _⟩ := Lib.indexByte_some ho
      have hlt := (List.getElem?_eq_some_iff.1 h1).1
      have hw : w1 (ixC c x) = ((o + 1 : Nat) : Int) := by unfold w1; rw [ho, i64_in (by omega) (by omega)]; push_cast; rfl
      rw [hw, ho]
      refine (bcF (b := false) rfl).trans ?_
      rw [bcT (b := decide ((o : Int) ≥ 0)) (decide_eq_true (by omega)), bcT (b := decide (0 ≤ (o : Int) ∧ _)) (decide_eq_true (by omega)), bcT (b := decide (0 ≤ ((o + 1 : Nat) : Int) ∧ _)) (decide_eq_true (by omega)), bcT (b := decide ((o : Int) ≥ 0)) (decide_eq_true (by omega))]
      rw [Int.toNat_natCast, Int.toNat_natCast, List.take_of_length_le (l := List.drop (o + 1) x) (by rw [List.length_drop]; exact Nat.le_refl _)]
      rfl
    · refine (bcF (b := false) rfl).trans ?_
      rw [bcF (b := decide (ixC c x ≥ 0)) (decide_eq_false h0), bcF (b := decide (ixC c x ≥ 0)) (decide_eq_false h0)]
theorem cut_ok : EntOK Tryd.prog 51 eCut := fun args pre => by
  unfold eCut
  split
  · rename_i x
    have e : Comes tab0 nolv 51 [.str x, .str [33]] [] (ctT 33 x) := by unfold Comes; kernel_rfl
    exact of_run (ans_comes tab0_ok e) fun r h => ct_run 33 x r h
  · rename_i x
    have e : Comes tab0 nolv 51 [.str x, .str [39]] [] (ctT 39 x) := by unfold Comes; kernel_rfl
    exact of_run (ans_comes tab0_ok e) fun r h => ct_run 39 x r h
  · trivial
end Go.Proofs.YtanhlbdcjonaoaaDoor

/- Layer 2: texts that are built, also of nothing. -/
set_option linter.unusedVariables false
set_option linter.unusedSimpArgs false
namespace Go.Proofs.YtanhlbdcjonaoaaDoor
open Go Sx

def bNil : PObj := .raw (.cells [.ptr 0 0, .nilslice] 60)
def eWS2 : Ent := fun args pre => match args, pre with
  | [.ptr 0 0, .str x], [.raw (.cells [.nilptr, .nilslice] 60)] => .chk (decide (x.length ≤ 1000000)) (.br (decide (0 < x.length)) (.ret (.tuple [.int .i64 (x.length : Int), .niliface]) [bOn 1 x.length, .vecB x 5]) (.ret (.tuple [.int .i64 (x.length : Int), .niliface]) [bNil]))
  | args, pre => eWS args pre
theorem ws2_ok : EntOK Tryd.prog 26 eWS2 := fun args pre => by
  unfold eWS2
  split
  · rename_i x
    have e : Comes tab0 nolv 26 [.ptr 0 0, .str x] [bNew] (.br (decide (0 < x.length)) (.br (true && decide (2 * x.length * 1 ≤ 281474976710656 ∧ 2 * x.length < 9223372036854775808)) (.ret (.tuple [.int .i64 (x.length : Int), .niliface]) [bOn 1 x.length, .vecB x 5]) .fail)
      (.ret (.tuple [.int .i64 (x.length : Int), .niliface]) [bNil])) := by unfold Comes; kernel_rfl
    refine of_run (ans_comes tab0_ok e) fun r h => ?_
    obtain ⟨h1, h⟩ := chk_run h
    have h1 := of_decide_eq_true h1
    rw [← h]
    simp only [Ans.run]
    rw [bcT (b := true && _) (by rw [Bool.true_and, decide_eq_true_eq]; omega)]
  · exact ws_ok _ _
def eWB2 : Ent := fun args pre => match args, pre with
  | [.ptr 0 0, .int .u8 39], [.raw (.cells [.ptr 0 0, .nilslice] 60)] => .ret .niliface [bOn 1 1, .vecB [39] 5]
  | [.ptr 0 0, .int .u8 39], [.raw (.cells [.ptr 0 0, .vec 1 m] 60), .vecB acc 5] => .chk (decide (acc.length = m ∧ m + 1 ≤ 1000000)) (.ret .niliface [bOn 2 (m + 1), .raw .dead, .vecB (acc ++ [39]) 5])
  | args, pre => eWB args pre
theorem wb2_ok : EntOK Tryd.prog 28 eWB2 := fun args pre => by
  unfold eWB2
  split
  · have e : Comes tab0 nolv 28 [.ptr 0 0, .int .u8 39] [bNil] (.ret .niliface [bOn 1 1, .vecB [39] 5]) := by unfold Comes; kernel_rfl
    exact of_run (ans_comes tab0_ok e) fun r h => h
  · rename_i m acc
    have e : Comes tab0 nolv 28 [.ptr 0 0, .int .u8 39] [bOn 1 m, .vecB acc 5] (.br (roomB acc m 1) (.ret .niliface [bOn 2 (m + 1), .raw .dead, .vecB (acc ++ [39]) 5]) .fail) := by unfold Comes; kernel_rfl
    refine of_run (ans_comes tab0_ok e) fun r h => ?_
    obtain ⟨h1, h⟩ := chk_run h
    have h1 := of_decide_eq_true h1
    rw [← h]
    simp only [Ans.run]
    rw [bcT (b := roomB acc m 1) (room_ok h1.1 h1.2)]
  · exact wb_ok _ _
def eBS2 : Ent := fun args pre => match args, pre with
  | [.ptr 0 0], [.raw (.cells [.ptr 0 0, .nilslice] 60)] => .ret (.str []) [bNil]
  | args, pre => eBS args pre
theorem bs2_ok : EntOK Tryd.prog 31 eBS2 := fun args pre => by
  unfold eBS2
  split
  · have e : Comes tab0 nolv 31 [.ptr 0 0] [bNil] (.ret (.str []) [bNil]) := by unfold Comes; kernel_rfl
    exact of_run (ans_comes tab0_ok e) fun r h => h
  · exact bs_ok _ _
/-- What cutQuoted calls; is it a sheet's name: by a function that is not looked into. -/
def eBoolF (f : List UInt8 → Bool) : Ent := fun args pre => match args, pre with
  | [.str l], [] => .ret (.bool (f l)) []
  | _, _ => .fail
def tabC (f : List UInt8 → Bool) : Tab := (40, eBoolF f) :: (26, eWS2) :: (28, eWB2) :: (31, eBS2) :: (34, eCutP) :: (51, eCut) :: tab0
end Go.Proofs.YtanhlbdcjonaoaaDoor

/- Layer 2: names between apostrophes, read. -/
set_option linter.unusedVariables false
set_option linter.unusedSimpArgs false
namespace Go.Proofs.YtanhlbdcjonaoaaDoor
open Go Sx

def st50a (l : List UInt8) : PState :=
  ⟨some (.str l) :: none :: some (.str []) :: some (.str []) :: some (.bool false) :: some (.ptr 0 0) :: List.replicate 34 none, some (.raw (.cells [.nilptr, .nilslice] 60)) :: List.replicate 64 none⟩
def st50b (l acc : List UInt8) (m : Nat) : PState :=
  ⟨some (.str l) :: none :: some (.str []) :: some (.str []) :: some (.bool false) :: some (.ptr 0 0) :: List.replicate 34 none, some (.raw (.cells [.ptr 0 0, .vec 1 m] 60)) :: some (.vecB acc 5) :: List.replicate 64 none⟩
def fin50 (a b : List UInt8) (c : Bool) : PState := ⟨none :: none :: some (.str a) :: some (.str b) :: some (.bool c) :: List.replicate 35 none, List.replicate 64 none⟩
def bsB (a : List UInt8) (m : Nat) : Bool := decide (0 < a.length ∧ a.length = m ∧ m ≤ 1000000)
def on50 (f : List UInt8 → Bool) (acc : List UInt8) (m : Nat) (beh : List UInt8) : Option (Ex × PState) :=
  bcond (cpB 33 beh) (bcond (bsB acc m) (bcond (bsB acc m) (some (.ret, fin50 acc (beh.drop 1) (f acc))) none) none)
    (bcond (cpB 39 beh) (bcond (decide (acc.length = m ∧ m + 1 ≤ 1000000)) (some (.normal, st50b (beh.drop 1) (acc ++ [39]) (m + 1))) none) (some (.ret, fin50 [] [] false)))
def nil50 (f : List UInt8 → Bool) (beh : List UInt8) : Option (Ex × PState) :=
  bcond (cpB 33 beh) (some (.ret, fin50 [] (beh.drop 1) (f []))) (bcond (cpB 39 beh) (some (.normal, st50b (beh.drop 1) [39] 1)) (some (.ret, fin50 [] [] false)))
theorem round50a (f : List UInt8 → Bool) (l : List UInt8) : code (ent (R := Ex × PState) Tryd.prog (tabC f) nolv 64 18446744073709551616 30) Tryd.prog {} 0 64 18446744073709551616 ((loopBodies (bodyOf Tryd.f50)).headD .skip) (st50a l) (endK 0 64 (fun n => hasN [0, 2, 3, 4, 5] n) (fun n => hasN [2, 3, 4] n)) =
    bcond (decide (l.length ≤ 1000000)) (bcond (decide (ixC 39 l ≥ 0)) (bcond (decide ((l.take (ixC 39 l).toNat).length ≤ 1000000)) (bcond (decide (0 < (l.take (ixC 39 l).toNat).length)) (on50 f (l.take (ixC 39 l).toNat) (l.take (ixC 39 l).toNat).length (l.drop ((ixC 39 l).toNat + 1))) (nil50 f (l.drop ((ixC 39 l).toNat + 1)))) none)
      (bcond (decide (l.length ≤ 1000000)) (bcond (decide (0 < l.length)) (some (.ret, fin50 [] [] false)) (some (.ret, fin50 [] [] false))) none)) none := by kernel_rfl
theorem round50b (f : List UInt8 → Bool) (l acc : List UInt8) (m : Nat) : code (ent (R := Ex × PState) Tryd.prog (tabC f) nolv 64 18446744073709551616 30) Tryd.prog {} 0 64 18446744073709551616 ((loopBodies (bodyOf Tryd.f50)).headD .skip) (st50b l acc m) (endK 0 64 (fun n => hasN [0, 2, 3, 4, 5] n) (fun n => hasN [2, 3, 4] n)) =
    bcond (decide (l.length ≤ 1000000)) (bcond (decide (ixC 39 l ≥ 0)) (bcond (decide (acc.length = m ∧ m + (l.take (ixC 39 l).toNat).length ≤ 1000000)) (on50 f (acc ++ l.take (ixC 39 l).toNat) (m + (l.take (ixC 39 l).toNat).length) (l.drop ((ixC 39 l).toNat + 1))) none)
      (bcond (decide (acc.length = m ∧ m + l.length ≤ 1000000)) (some (.ret, fin50 [] [] false)) none)) none := by kernel_rfl
end Go.Proofs.YtanhlbdcjonaoaaDoor

/- Layer 2: names between apostrophes, read: the loop. -/
set_option linter.unusedVariables false
set_option linter.unusedSimpArgs false
namespace Go.Proofs.YtanhlbdcjonaoaaDoor
open Go Sx

def prt (l : List UInt8) : List UInt8 := l.take (ixC 39 l).toNat
def bhd (l : List UInt8) : List UInt8 := l.drop ((ixC 39 l).toNat + 1)
def inv50 (l acc : List UInt8) : PState := bcond acc.isEmpty (st50a l) (st50b l acc acc.length)
def rnd50 (f : List UInt8 → Bool) (l acc : List UInt8) : Option (Ex × PState) :=
  bcond (decide (ixC 39 l ≥ 0)) (bcond (cpB 33 (bhd l)) (some (.ret, fin50 (acc ++ prt l) ((bhd l).drop 1) (f (acc ++ prt l))))
    (bcond (cpB 39 (bhd l)) (some (.normal, inv50 ((bhd l).drop 1) (acc ++ prt l ++ [39]))) (some (.ret, fin50 [] [] false)))) (some (.ret, fin50 [] [] false))
theorem on50_eq (f : List UInt8 → Bool) (a beh : List UInt8) (h0 : 0 < a.length) (h1 : a.length + beh.length ≤ 1000000) : on50 f a a.length beh =
    bcond (cpB 33 beh) (some (.ret, fin50 a (beh.drop 1) (f a))) (bcond (cpB 39 beh) (some (.normal, inv50 (beh.drop 1) (a ++ [39]))) (some (.ret, fin50 [] [] false))) := by
  unfold on50
  rw [bcT (b := bsB a a.length) (by unfold bsB; rw [decide_eq_true_eq]; omega)]
  rw [bcT (b := bsB a a.length) (by unfold bsB; rw [decide_eq_true_eq]; omega)]
  cases cpB 33 beh with
  | true => rfl
  | false =>
    rw [bcF rfl, bcF rfl]
    cases h39 : cpB 39 beh with
    | false => rfl
    | true =>
      have hb : 1 ≤ beh.length := by
        cases beh with
        | nil => cases h39
        | cons c r => simp
      rw [bcT (b := true) rfl, bcT (b := true) rfl, bcT (b := decide (a.length = a.length ∧ a.length + 1 ≤ 1000000)) (by rw [decide_eq_true_eq]; omega)]
      unfold inv50
      have he : (a ++ [39]).isEmpty = false := by cases a <;> rfl
      rw [he, List.length_append]; rfl
theorem round50 (f : List UInt8 → Bool) (l acc : List UInt8) (h : acc.length + l.length ≤ 1000000) : code (ent (R := Ex × PState) Tryd.prog (tabC f) nolv 64 18446744073709551616 30) Tryd.prog {} 0 64 18446744073709551616 ((loopBodies (bodyOf Tryd.f50)).headD .skip) (inv50 l acc) (endK 0 64 (fun n => hasN [0, 2, 3, 4, 5] n) (fun n => hasN [2, 3, 4] n)) = rnd50 f l acc := by
  have hp : (prt l).length + (bhd l).length ≤ l.length := by unfold prt bhd; rw [List.length_take, List.length_drop]; omega
  unfold rnd50
  cases acc with
  | nil =>
    show code _ _ _ _ _ _ _ (st50a l) _ = _
    rw [round50a]
    simp only [List.length_nil, Nat.zero_add] at h
    rw [bcT (b := decide (l.length ≤ 1000000)) (decide_eq_true h), bcT (b := decide (l.length ≤ 1000000)) (decide_eq_true h), List.nil_append]
    by_cases h1 : ixC 39 l ≥ 0
    · rw [bcT (b := decide (ixC 39 l ≥ 0)) (decide_eq_true h1), bcT (b := decide (ixC 39 l ≥ 0)) (decide_eq_true h1)]
      show bcond (decide ((prt l).length ≤ 1000000)) (bcond (decide (0 < (prt l).length)) (on50 f (prt l) (prt l).length (bhd l)) (nil50 f (bhd l))) none = _
      rw [bcT (b := decide ((prt l).length ≤ 1000000)) (decide_eq_true (by omega))]
      by_cases h2 : 0 < (prt l).length
      · rw [bcT (b := decide (0 < (prt l).length)) (decide_eq_true h2), on50_eq f _ _ h2 (by omega)]
      · rw [bcF (b := decide (0 < (prt l).length)) (decide_eq_false h2)]
        have h3 : prt l = [] := List.eq_nil_of_length_eq_zero (by omega)
        rw [h3]; rfl
    · rw [bcF (b := decide (ixC 39 l ≥ 0)) (decide_eq_false h1), bcF (b := decide (ixC 39 l ≥ 0)) (decide_eq_false h1)]
      cases decide (0 < l.length) <;> rfl
  | cons c r =>
    show code _ _ _ _ _ _ _ (st50b l (c :: r) (c :: r).length) _ = _
    rw [round50b]
    generalize hA : c :: r = a at *
    have ha : 0 < a.length := by rw [← hA]; simp
    rw [bcT (b := decide (l.length ≤ 1000000)) (decide_eq_true (by omega))]
    by_cases h1 : ixC 39 l ≥ 0
    · rw [bcT (b := decide (ixC 39 l ≥ 0)) (decide_eq_true h1), bcT (b := decide (ixC 39 l ≥ 0)) (decide_eq_true h1)]
      show bcond (decide (a.length = a.length ∧ a.length + (prt l).length ≤ 1000000)) (on50 f (a ++ prt l) (a.length + (prt l).length) (bhd l)) none = _
      rw [bcT (b := decide (a.length = a.length ∧ _)) (decide_eq_true ⟨rfl, by omega⟩), ← List.length_append]
      exact on50_eq f _ _ (by rw [List.length_append]; omega) (by rw [List.length_append]; omega)
    · rw [bcF (b := decide (ixC 39 l ≥ 0)) (decide_eq_false h1), bcF (b := decide (ixC 39 l ≥ 0)) (decide_eq_false h1), bcT (b := decide (a.length = a.length ∧ _)) (decide_eq_true ⟨rfl, h⟩)]
/-- A name between apostrophes, and what stands behind its exclamation mark. -/
def cqF (f : List UInt8 → Bool) : Nat → List UInt8 → List UInt8 → List UInt8 × List UInt8 × Bool
  | 0, _, _ => ([], [], false)
  | n + 1, l, acc => bcond (decide (ixC 39 l ≥ 0)) (bcond (cpB 33 (bhd l)) (acc ++ prt l, (bhd l).drop 1, f (acc ++ prt l))
    (bcond (cpB 39 (bhd l)) (cqF f n ((bhd l).drop 1) (acc ++ prt l ++ [39])) ([], [], false))) ([], [], false)
def out50 (r : List UInt8 × List UInt8 × Bool) : Ex × PState := (.ret, fin50 r.1 r.2.1 r.2.2)
theorem loop50 (f : List UInt8 → Bool) (hT : TabOK Tryd.prog (tabC f)) (l : List UInt8) (h : l.length ≤ 1000000) : Tri Tryd.prog (.loop ((loopBodies (bodyOf Tryd.f50)).headD .skip)) (st50a l).toA .ret (out50 (cqF f (l.length + 1) l [])).2.toA 0 := by
  refine loop_rounds (ι := { q : List UInt8 × List UInt8 × Nat // q.2.1.length + q.1.length ≤ 1000000 ∧ q.1.length < q.2.2 }) (ent_sound (NF := 64) (m := 18446744073709551616) hT host nolv_ok 30) (lv := {}) (NF := 64) (m := 18446744073709551616) (fun x hx id e h1 h2 => by cases h2) (fun n => hasN [0, 2, 3, 4, 5] n) (fun n => hasN [2, 3, 4] n) (fun q => inv50 q.1.1 q.1.2.1) (fun q => q.1.1.length) (fun q => out50 (cqF f q.1.2.2 q.1.1 q.1.2.1)) ?_ (fun q => by simp [out50]) ⟨(l, [], l.length + 1), by simp; exact h⟩
  rintro ⟨⟨l, acc, n⟩, h1, h2⟩
  simp only at h1 h2 ⊢
  rw [round50 f l acc h1]
  unfold rnd50
  cases n with
  | zero => omega
  | succ n =>
    simp only [cqF]
    cases c1 : decide (ixC 39 l ≥ 0) with
    | false => exact .inr rfl
    | true =>
      cases c2 : cpB 33 (bhd l) with
      | true => exact .inr rfl
      | false =>
        cases c3 : cpB 39 (bhd l) with
        | false => exact .inr rfl
        | true =>
          have hb : 1 ≤ (bhd l).length := by
            cases hb : bhd l with
            | nil => rw [hb] at c3; cases c3
            | cons c r => simp
          have hp : (prt l).length + (bhd l).length + 1 ≤ l.length := by
            have h3 : 1 ≤ (bhd l).length := hb
            unfold bhd at h3
            unfold prt bhd
            rw [List.length_drop] at h3
            rw [List.length_take, List.length_drop]; omega
          refine .inl ⟨⟨((bhd l).drop 1, acc ++ prt l ++ [39], n), ?_⟩, ?_, rfl, rfl⟩
          · simp only [List.length_append, List.length_drop, List.length_cons, List.length_nil]; omega
          · simp only [List.length_drop]; omega
end Go.Proofs.YtanhlbdcjonaoaaDoor

/- Layer 2: names of sheets, read. -/
set_option linter.unusedVariables false
set_option linter.unusedSimpArgs false
namespace Go.Proofs.YtanhlbdcjonaoaaDoor
open Go Sx

theorem tabC_ok : TabOK Tryd.prog (tabC sheetB) := .cons isSheetP_ok (.cons ws2_ok (.cons wb2_ok (.cons bs2_ok (.cons cutP_ok (.cons cut_ok tab0_ok)))))
def e50 (g : List UInt8 → List UInt8 × List UInt8 × Bool) : Nat → PState → LAns := fun K t => match K, t with
  | 0, ⟨some (.str l) :: none :: some (.str []) :: some (.str []) :: some (.bool false) :: some (.ptr 0 0) :: rs, some (.raw (.cells [.nilptr, .nilslice] 60)) :: rm⟩ =>
    .chk (nonesV 34 rs) (.chk (nonesB 64 rm) (.chk (decide (l.length ≤ 1000000)) (.out .ret (fin50 (g l).1 (g l).2.1 (g l).2.2))))
  | _, _ => .fail
def lv50 (g : List UInt8 → List UInt8 × List UInt8 × Bool) : FuncId → Lv := fun f => match f with
  | 50 => { keep := fun _ => some [0, 2, 3, 4, 5], ent := fun i => match i with | 2 => some (e50 g) | _ => none }
  | _ => {}
/-- What stands between the apostrophes, and behind. -/
def cqS (l : List UInt8) : List UInt8 × List UInt8 × Bool := cqF sheetB (l.length + 1) l []
theorem lv50_ok : LvOK Tryd.prog (lv50 cqS) := by
  intro f fn body hf hb K x hx id e hid he t
  by_cases h : f = 50
  · subst h
    obtain rfl : fn = Tryd.f50 := (Option.some.inj (Tryd.func50.symm.trans hf)).symm
    have hbody : body = bodyOf Tryd.f50 := by unfold bodyOf; rw [hb]; rfl
    subst hbody
    have h1 : loopBodies (bodyOf Tryd.f50) = [(loopBodies (bodyOf Tryd.f50)).headD .skip] := by kernel_rfl
    rw [h1] at hx
    have hx' := List.mem_singleton.1 hx
    have h2 : id = 2 := by
      have h3 : headReg ((loopBodies (bodyOf Tryd.f50)).headD .skip) = some 2 := by kernel_rfl
      rw [hx', h3] at hid; exact (Option.some.inj hid).symm
    subst h2
    have he' : e50 cqS = e := Option.some.inj he
    subst he'
    rw [hx']
    clear hx hx' hid he hb hf h1
    unfold e50
    split
    · rename_i l rs rm
      refine ⟨fun g1 => ⟨fun g2 => ⟨fun g3 => ?_, fun _ => trivial⟩, fun _ => trivial⟩, fun _ => trivial⟩
      rw [nonesV_eq _ _ g1, nonesB_eq _ _ g2]
      exact loop50 sheetB tabC_ok l (of_decide_eq_true g3)
    · trivial
  · exfalso
    have : (lv50 cqS f).ent id = none := by
      unfold lv50
      split
      · exact absurd rfl h
      · rfl
    rw [this] at he; cases he
def eTri (g : List UInt8 → List UInt8 × List UInt8 × Bool) : Ent := fun args pre => match args, pre with
  | [.str l], [] => .chk (decide (l.length ≤ 1000000)) (.ret (.tuple [.str (g l).1, .str (g l).2.1, .bool (g l).2.2]) [])
  | _, _ => .fail
theorem cutQuoted_ok : EntOK Tryd.prog 50 (eTri cqS) := fun args pre => by
  unfold eTri
  split
  · rename_i l
    have e : Comes (tabC sheetB) (lv50 cqS) 50 [.str l] [] (.br (decide (l.length ≤ 1000000)) (.ret (.tuple [.str (cqS l).1, .str (cqS l).2.1, .bool (cqS l).2.2]) []) .fail) := by unfold Comes; kernel_rfl
    refine of_run (ans_comes tabC_ok e lv50_ok) fun r h => ?_
    obtain ⟨h1, h⟩ := chk_run h
    rw [← h]
    simp only [Ans.run]
    rw [bcT h1]
  · trivial
def tabD (g : List UInt8 → List UInt8 × List UInt8 × Bool) (p f : List UInt8 → Bool) : Tab := (50, eTri g) :: (47, eBoolF p) :: (40, eBoolF f) :: (34, eCutP) :: (51, eCut) :: tab0
theorem tabD_ok : TabOK Tryd.prog (tabD cqS (fun l => plainF l l.length 0) sheetB) := .cons cutQuoted_ok (.cons plain_ok (.cons isSheetP_ok (.cons cutP_ok (.cons cut_ok tab0_ok))))
end Go.Proofs.YtanhlbdcjonaoaaDoor

/- Layer 2: names of sheets ahead of a reference. -/
set_option linter.unusedVariables false
set_option linter.unusedSimpArgs false
namespace Go.Proofs.YtanhlbdcjonaoaaDoor
open Go Sx

/-- What stands ahead of the exclamation mark, and behind it. -/
def csF (g : List UInt8 → List UInt8 × List UInt8 × Bool) (p f : List UInt8 → Bool) (l : List UInt8) : List UInt8 × List UInt8 × Bool :=
  bcond (cpB 39 l) (g (l.drop 1)) (bcond (decide (ixC 33 l ≥ 0)) (l.take (ixC 33 l).toNat, l.drop ((ixC 33 l).toNat + 1), p (l.take (ixC 33 l).toNat) && f (l.take (ixC 33 l).toNat)) ([], l, true))
theorem cutSheet_comes (g : List UInt8 → List UInt8 × List UInt8 × Bool) (p f : List UInt8 → Bool) (l : List UInt8) : Comes (tabD g p f) nolv 32 [.str l] []
    (.br (cpB 39 l) (.br (decide ((l.drop 1).length ≤ 1000000)) (.ret (.tuple [.str (g (l.drop 1)).1, .str (g (l.drop 1)).2.1, .bool (g (l.drop 1)).2.2]) []) .fail)
      (.br (decide (l.length ≤ 1000000)) (.br (decide (ixC 33 l ≥ 0)) (.br (p (l.take (ixC 33 l).toNat)) (.ret (.tuple [.str (l.take (ixC 33 l).toNat), .str (l.drop ((ixC 33 l).toNat + 1)), .bool (f (l.take (ixC 33 l).toNat))]) [])
        (.ret (.tuple [.str (l.take (ixC 33 l).toNat), .str (l.drop ((ixC 33 l).toNat + 1)), .bool false]) [])) (.ret (.tuple [.str [], .str l, .bool true]) [])) .fail)) := by unfold Comes; kernel_rfl
def csS (l : List UInt8) : List UInt8 × List UInt8 × Bool := csF cqS (fun l => plainF l l.length 0) sheetB l
theorem cutSheet_ok : EntOK Tryd.prog 32 (eTri csS) := fun args pre => by
  unfold eTri
  split
  · rename_i l
    refine of_run (ans_comes tabD_ok (cutSheet_comes _ _ _ l)) fun r h => ?_
    obtain ⟨h1, h⟩ := chk_run h
    have h1 := of_decide_eq_true h1
    rw [← h]
    simp only [Ans.run, csS, csF]
    cases cpB 39 l with
    | true =>
      rw [bcT (b := decide ((l.drop 1).length ≤ 1000000)) (by rw [decide_eq_true_eq, List.length_drop]; omega)]
      rfl
    | false =>
      rw [bcT (b := decide (l.length ≤ 1000000)) (decide_eq_true h1)]
      cases decide (ixC 33 l ≥ 0) with
      | false => rfl
      | true =>
        cases hp : plainF (l.take (ixC 33 l).toNat) (l.take (ixC 33 l).toNat).length 0 with
        | false => simp only [bcond, Bool.false_and, hp]
        | true => simp only [bcond, Bool.true_and, hp]
  · trivial
end Go.Proofs.YtanhlbdcjonaoaaDoor

/- Layer 2: references, read. -/
set_option linter.unusedVariables false
set_option linter.unusedSimpArgs false
namespace Go.Proofs.YtanhlbdcjonaoaaDoor
open Go Sx

def eTrimO (tl td : List UInt8 → List UInt8) : Ent := fun args pre => match args, pre with
  | [.str l, .func 37 [] []], [] => .chk (decide (l.length ≤ 9223372036854775807)) (.ret (.str (tl l)) [])
  | [.str l, .func 39 [] []], [] => .chk (decide (l.length ≤ 9223372036854775807)) (.ret (.str (td l)) [])
  | _, _ => .fail
def eRC (ok : List UInt8 → Bool) (rc : List UInt8 → Int × Int) : Ent := fun args pre => match args, pre with
  | [.str l], [] => .chk (ok l) (.ret (.tuple [.int .i64 (rc l).1, .int .i64 (rc l).2]) [])
  | _, _ => .fail
def eRR (ok : List UInt8 → Bool) (rr : List UInt8 → Int × Bool) : Ent := fun args pre => match args, pre with
  | [.str l], [] => .chk (ok l) (.ret (.tuple [.int .i64 (rr l).1, .bool (rr l).2]) [])
  | _, _ => .fail
def tabE (cs : List UInt8 → List UInt8 × List UInt8 × Bool) (tl td : List UInt8 → List UInt8) (okc : List UInt8 → Bool) (rc : List UInt8 → Int × Int) (okr : List UInt8 → Bool) (rr : List UInt8 → Int × Bool) : Tab := (32, eTri cs) :: (36, eTrimO tl td) :: (18, eRC okc rc) :: (38, eRR okr rr) :: (34, eCutP) :: tab0
end Go.Proofs.YtanhlbdcjonaoaaDoor

/- Layer 2: references, read: any text, but for its column's letters and its row's digits. -/
set_option linter.unusedVariables false
set_option linter.unusedSimpArgs false
namespace Go.Proofs.YtanhlbdcjonaoaaDoor
open Go Sx

def noRef : Ans := .ret (.tuple [.agg [.str [], .int .i64 0, .int .i64 0, .bool false, .bool false, .bool false], .int .i64 20]) []
def lenP (t : List UInt8 → List UInt8) (R : List UInt8) : Int := IntKind.i64.wrap ((R.length : Int) - ((t R).length : Int))
def hdP (t : List UInt8 → List UInt8) (R : List UInt8) : List UInt8 := List.take ((lenP t R).toNat - 0) (List.drop 0 R)
def rowT (td : List UInt8 → List UInt8) (okr : List UInt8 → Bool) (rr : List UInt8 → Int × Bool) (s : List UInt8) (C : Int × Int) (b a : Bool) (R : List UInt8) : Ans :=
  .br (decide (R.length ≤ 9223372036854775807)) (.br (decide (0 ≤ lenP td R ∧ (lenP td R).toNat ≤ R.length)) (.br (okr (hdP td R)) (.br (C.2 != 0) noRef (.br (!(rr (hdP td R)).2) noRef (.br (!(td R == [])) noRef
    (.ret (.tuple [.agg [.str s, .int .i64 (rr (hdP td R)).1, .int .i64 C.1, .bool a, .bool b, .bool false], .int .i64 0]) [])))) .fail) .fail) .fail
def colT (tl td : List UInt8 → List UInt8) (okc : List UInt8 → Bool) (rc : List UInt8 → Int × Int) (okr : List UInt8 → Bool) (rr : List UInt8 → Int × Bool) (s : List UInt8) (b : Bool) (R : List UInt8) : Ans :=
  .br (decide (R.length ≤ 9223372036854775807)) (.br (decide (0 ≤ lenP tl R ∧ (lenP tl R).toNat ≤ R.length)) (.br (okc (hdP tl R))
    (.br (cpB 36 (tl R)) (rowT td okr rr s (rc (hdP tl R)) b true ((tl R).drop 1)) (rowT td okr rr s (rc (hdP tl R)) b false (tl R))) .fail) .fail) .fail
def rdT (cs : List UInt8 → List UInt8 × List UInt8 × Bool) (tl td : List UInt8 → List UInt8) (okc : List UInt8 → Bool) (rc : List UInt8 → Int × Int) (okr : List UInt8 → Bool) (rr : List UInt8 → Int × Bool) (l : List UInt8) : Ans :=
  .br (l == [35, 82, 69, 70, 33]) (.ret (.tuple [.agg [.str [], .int .i64 0, .int .i64 0, .bool false, .bool false, .bool true], .int .i64 0]) [])
    (.br (decide (l.length ≤ 1000000)) (.br (!(cs l).2.2) noRef (.br (cpB 36 (cs l).2.1) (colT tl td okc rc okr rr (cs l).1 true ((cs l).2.1.drop 1)) (colT tl td okc rc okr rr (cs l).1 false (cs l).2.1))) .fail)
theorem read_comes (cs : List UInt8 → List UInt8 × List UInt8 × Bool) (tl td : List UInt8 → List UInt8) (okc : List UInt8 → Bool) (rc : List UInt8 → Int × Int) (okr : List UInt8 → Bool) (rr : List UInt8 → Int × Bool) (l : List UInt8) :
    Comes (tabE cs tl td okc rc okr rr) nolv 13 [.str l] [] (rdT cs tl td okc rc okr rr l) := by unfold Comes; kernel_rfl

/-- A part ahead, and what is behind. -/
def ahd (t : List UInt8 → List UInt8) (R : List UInt8) : List UInt8 := R.take (R.length - (t R).length)
def unfix (R : List UInt8) : List UInt8 := bcond (cpB 36 R) (R.drop 1) R
/-- The column's letters and the row's digits of a text. -/
def colP (cs : List UInt8 → List UInt8 × List UInt8 × Bool) (l : List UInt8) : List UInt8 := unfix (cs l).2.1
def rowP (cs : List UInt8 → List UInt8 × List UInt8 × Bool) (tl : List UInt8 → List UInt8) (l : List UInt8) : List UInt8 := unfix (tl (colP cs l))
def readS (cs : List UInt8 → List UInt8 × List UInt8 × Bool) (tl td : List UInt8 → List UInt8) (rc : List UInt8 → Int × Int) (rr : List UInt8 → Int × Bool) (l : List UInt8) : AV :=
  bcond (l == [35, 82, 69, 70, 33]) (.tuple [.agg [.str [], .int .i64 0, .int .i64 0, .bool false, .bool false, .bool true], .int .i64 0])
    (bcond ((cs l).2.2 && (rc (ahd tl (colP cs l))).2 == 0 && (rr (ahd td (rowP cs tl l))).2 && td (rowP cs tl l) == [])
      (.tuple [.agg [.str (cs l).1, .int .i64 (rr (ahd td (rowP cs tl l))).1, .int .i64 (rc (ahd tl (colP cs l))).1, .bool (cpB 36 (tl (colP cs l))), .bool (cpB 36 (cs l).2.1), .bool false], .int .i64 0])
      (.tuple [.agg [.str [], .int .i64 0, .int .i64 0, .bool false, .bool false, .bool false], .int .i64 20]))
theorem lenP_eq {t : List UInt8 → List UInt8} {R : List UInt8} (h : (t R).length ≤ R.length) (hR : R.length ≤ 9223372036854775807) : lenP t R = ((R.length - (t R).length : Nat) : Int) := by
  unfold lenP
  rw [i64_in (by omega) (by omega)]; omega
theorem hdP_eq {t : List UInt8 → List UInt8} {R : List UInt8} (h : (t R).length ≤ R.length) (hR : R.length ≤ 9223372036854775807) : hdP t R = ahd t R := by
  unfold hdP ahd
  rw [lenP_eq h hR, List.drop_zero]; rfl
def noV : AV := .tuple [.agg [.str [], .int .i64 0, .int .i64 0, .bool false, .bool false, .bool false], .int .i64 20]
theorem rowT_run {td : List UInt8 → List UInt8} {okr : List UInt8 → Bool} {rr : List UInt8 → Int × Bool} {s : List UInt8} {C : Int × Int} {b a : Bool} {R : List UInt8} (h : (td R).length ≤ R.length) (hR : R.length ≤ 9223372036854775807) (ho : okr (ahd td R) = true) :
    (rowT td okr rr s C b a R).run pure2 = pure2 (bcond (C.2 == 0 && (rr (ahd td R)).2 && td R == []) (.tuple [.agg [.str s, .int .i64 (rr (ahd td R)).1, .int .i64 C.1, .bool a, .bool b, .bool false], .int .i64 0]) noV) [] := by
  unfold rowT
  simp only [Ans.run, noRef]
  rw [bcT (b := decide (R.length ≤ 9223372036854775807)) (decide_eq_true hR), lenP_eq h hR, bcT (b := decide (0 ≤ ((R.length - (td R).length : Nat) : Int) ∧ _)) (by rw [decide_eq_true_eq]; omega), hdP_eq h hR, bcT ho]
  show bcond (!(C.2 == 0)) _ _ = _
  cases C.2 == 0 <;> cases (rr (ahd td R)).2 <;> cases td R == [] <;> rfl
theorem colT_run {tl td : List UInt8 → List UInt8} {okc : List UInt8 → Bool} {rc : List UInt8 → Int × Int} {okr : List UInt8 → Bool} {rr : List UInt8 → Int × Bool} {s : List UInt8} {b : Bool} {R : List UInt8} (h : ∀ R, (tl R).length ≤ R.length) (h' : ∀ R, (td R).length ≤ R.length) (hR : R.length ≤ 9223372036854775807)
    (ho : okc (ahd tl R) = true) (ho' : okr (ahd td (unfix (tl R))) = true) :
    (colT tl td okc rc okr rr s b R).run pure2 = pure2 (bcond ((rc (ahd tl R)).2 == 0 && (rr (ahd td (unfix (tl R)))).2 && td (unfix (tl R)) == []) (.tuple [.agg [.str s, .int .i64 (rr (ahd td (unfix (tl R)))).1, .int .i64 (rc (ahd tl R)).1, .bool (cpB 36 (tl R)), .bool b, .bool false], .int .i64 0]) noV) [] := by
  have h1 := h R
  unfold colT
  simp only [Ans.run]
  rw [bcT (b := decide (R.length ≤ 9223372036854775807)) (decide_eq_true hR), lenP_eq h1 hR, bcT (b := decide (0 ≤ ((R.length - (tl R).length : Nat) : Int) ∧ _)) (by rw [decide_eq_true_eq]; omega), hdP_eq h1 hR, bcT ho]
  unfold unfix at ho' ⊢
  cases hc : cpB 36 (tl R) with
  | true =>
    rw [hc] at ho'
    exact rowT_run (h' _) (by rw [List.length_drop]; omega) ho'
  | false =>
    rw [hc] at ho'
    exact rowT_run (h' _) (by omega) ho'
theorem rdT_run {cs : List UInt8 → List UInt8 × List UInt8 × Bool} {tl td : List UInt8 → List UInt8} {okc : List UInt8 → Bool} {rc : List UInt8 → Int × Int} {okr : List UInt8 → Bool} {rr : List UInt8 → Int × Bool} {l : List UInt8} (h : ∀ R, (tl R).length ≤ R.length) (h' : ∀ R, (td R).length ≤ R.length) (hl : l.length ≤ 1000000) (hc : (cs l).2.1.length ≤ l.length)
    (ho : okc (ahd tl (colP cs l)) = true) (ho' : okr (ahd td (rowP cs tl l)) = true) : (rdT cs tl td okc rc okr rr l).run pure2 = pure2 (readS cs tl td rc rr l) [] := by
  unfold rdT readS
  simp only [Ans.run, noRef]
  cases l == [35, 82, 69, 70, 33] with
  | true => rfl
  | false =>
    rw [bcT (b := decide (l.length ≤ 1000000)) (decide_eq_true hl)]
    cases h2 : (cs l).2.2 with
    | false => rfl
    | true =>
      unfold rowP at ho' ⊢
      unfold colP at ho ho' ⊢
      cases h3 : cpB 36 (cs l).2.1 with
      | true =>
        have hu : unfix (cs l).2.1 = (cs l).2.1.drop 1 := by unfold unfix; rw [h3]; rfl
        rw [hu] at ho ho' ⊢
        exact colT_run h h' (by rw [List.length_drop]; omega) ho ho'
      | false =>
        have hu : unfix (cs l).2.1 = (cs l).2.1 := by unfold unfix; rw [h3]; rfl
        rw [hu] at ho ho' ⊢
        exact colT_run h h' (by omega) ho ho'
end Go.Proofs.YtanhlbdcjonaoaaDoor

/- Layer 2: what is written, read: the pieces. -/
set_option linter.unusedVariables false
set_option linter.unusedSimpArgs false
namespace Go.Proofs.YtanhlbdcjonaoaaDoor
open Go Sx

/-- A byte's place, when it is not ahead. -/
theorem ixC_at (c : UInt8) : ∀ (a b : List UInt8), c ∉ a → ixC c (a ++ c :: b) = (a.length : Int)
  | [], b, _ => by simp [ixC, Lib.indexByte]
  | x :: a, b, h => by
    have hx : ¬ x = c := fun e => h (by rw [e]; exact List.mem_cons_self)
    have ih := ixC_at c a b (fun e => h (List.mem_cons_of_mem _ e))
    unfold ixC at ih
    simp only [ixC, List.cons_append, Lib.indexByte, List.length_cons]
    rw [ih]
    simp [hx]
theorem ixC_no (c : UInt8) : ∀ (a : List UInt8), c ∉ a → ixC c a = -1
  | [], _ => by simp [ixC, Lib.indexByte]
  | x :: a, h => by
    have hx : ¬ x = c := fun e => h (by rw [e]; exact List.mem_cons_self)
    have ih := ixC_no c a (fun e => h (List.mem_cons_of_mem _ e))
    unfold ixC at ih
    simp only [ixC, Lib.indexByte]
    rw [ih]
    simp [hx]
theorem dbl_app : ∀ (a b : List UInt8), 39 ∉ a → dblS (a ++ b) = a ++ dblS b
  | [], b, _ => rfl
  | x :: a, b, h => by
    have hx : ¬ x = 39 := fun e => h (by rw [e]; exact List.mem_cons_self)
    rw [List.cons_append, dblS, if_neg hx, dbl_app a b (fun e => h (List.mem_cons_of_mem _ e))]; rfl
theorem prt_at (a b : List UInt8) (h : (39 : UInt8) ∉ a) : prt (a ++ 39 :: b) = a ∧ bhd (a ++ 39 :: b) = b := by
  unfold prt bhd
  rw [ixC_at 39 a b h, Int.toNat_natCast]
  constructor
  · simp
  · rw [show a ++ 39 :: b = (a ++ [39]) ++ b by simp]; exact List.drop_left' (by simp)
/-- A name that was written between apostrophes is read as it was. -/
theorem cqF_dbl (f : List UInt8 → Bool) : ∀ (n : Nat) (s r acc : List UInt8), s.length < n → cqF f n (dblS s ++ 39 :: 33 :: r) acc = (acc ++ s, r, f (acc ++ s))
  | 0, s, r, acc, h => by omega
  | n + 1, s, r, acc, h => by
    by_cases hm : (39 : UInt8) ∈ s
    · obtain ⟨a, s', rfl, ha⟩ := List.eq_append_cons_of_mem hm
      have e : dblS (a ++ 39 :: s') ++ 39 :: 33 :: r = a ++ 39 :: (39 :: (dblS s' ++ 39 :: 33 :: r)) := by
        rw [dbl_app a _ ha, dblS, if_pos rfl]; simp
      rw [e]
      have hp := prt_at a (39 :: (dblS s' ++ 39 :: 33 :: r)) ha
      unfold cqF
      rw [hp.1, hp.2, ixC_at 39 a _ ha, bcT (b := decide ((a.length : Int) ≥ 0)) (decide_eq_true (by omega))]
      have h1 : cpB 33 (39 :: (dblS s' ++ 39 :: 33 :: r)) = false := rfl
      have h2 : cpB 39 (39 :: (dblS s' ++ 39 :: 33 :: r)) = true := rfl
      rw [h1, h2, bcF rfl, bcT rfl]
      have := cqF_dbl f n s' r (acc ++ a ++ [39]) (by simp only [List.length_append, List.length_cons] at h; omega)
      rw [show List.drop 1 (39 :: (dblS s' ++ 39 :: 33 :: r)) = dblS s' ++ 39 :: 33 :: r from rfl, this]
      simp
    · have e : dblS s = s := dbl_none s (List.count_eq_zero.2 hm)
      rw [e]
      have hp := prt_at s (33 :: r) hm
      unfold cqF
      rw [hp.1, hp.2, ixC_at 39 s _ hm, bcT (b := decide ((s.length : Int) ≥ 0)) (decide_eq_true (by omega))]
      rfl
theorem dbl_len_le : ∀ (s : List UInt8), s.length ≤ (dblS s).length
  | [] => Nat.le_refl _
  | x :: s => by
    have := dbl_len_le s
    rw [dblS]
    split <;> simp only [List.length_cons] <;> omega
theorem csS_quoted (s r : List UInt8) : csS (39 :: (dblS s ++ 39 :: 33 :: r)) = (s, r, sheetB s) := by
  unfold csS csF
  rw [show cpB 39 (39 :: (dblS s ++ 39 :: 33 :: r)) = true from rfl, bcT rfl]
  show cqF sheetB ((dblS s ++ 39 :: 33 :: r).length + 1) (dblS s ++ 39 :: 33 :: r) [] = _
  have := dbl_len_le s
  rw [cqF_dbl sheetB _ s r [] (by simp only [List.length_append, List.length_cons]; omega)]
  rfl
end Go.Proofs.YtanhlbdcjonaoaaDoor

/- Layer 2: what is written, read: signs below 128. -/
set_option linter.unusedVariables false
set_option linter.unusedSimpArgs false
namespace Go.Proofs.YtanhlbdcjonaoaaDoor
open Go Sx

theorem decN_low {n a b c d : Nat} (h : (Lib.decodeN n a b c d).1 < 128) : a < 128 := by
  unfold Lib.decodeN at h
  repeat' split at h
  all_goals first | assumption | (exfalso; simp only at h; omega)
theorem rune_asc {l : List UInt8} {p : Nat} (hp : p < l.length) (h : (l[p]).toNat < 128) : runeAt l p = ((l[p]).toNat : Int) ∧ (Utf8.decode ⟨l.toArray⟩ p).2 = 1 := by
  have hs : p < (⟨l.toArray⟩ : ByteArray).size := by simpa [ByteArray.size] using hp
  have := Go.decode_ascii ⟨l.toArray⟩ p hs h
  unfold runeAt
  rw [this]
  exact ⟨rfl, rfl⟩
theorem rune_low {l : List UInt8} {p : Nat} (hp : p < l.length) (h : runeAt l p < 128) : (l[p]).toNat < 128 := by
  have hs : p < (⟨l.toArray⟩ : ByteArray).size := by simpa [ByteArray.size] using hp
  unfold runeAt at h
  rw [Lib.decode_at] at h
  have := decN_low (Int.ofNat_lt.1 h)
  have e : (⟨l.toArray⟩ : ByteArray).get! p = l[p] := by
    show (l.toArray)[p]! = _
    simp [hp]
  rwa [e] at this
theorem scan_stop (f : Int → Bool) (c : UInt8) (b : List UInt8) (hc : c.toNat < 128) (hf : f c.toNat = false) : ∀ (a pre : List UInt8) (n : Nat), a.length < n → (∀ x ∈ a, x.toNat < 128 ∧ f x.toNat = true) → scanF f (pre ++ (a ++ c :: b)) n pre.length = some (pre.length + a.length)
  | [], pre, n + 1, _, _ => by
    have hp : pre.length < (pre ++ ([] ++ c :: b)).length := by simp
    have hg : (pre ++ ([] ++ c :: b))[pre.length] = c := by simp
    have hr := rune_asc hp (by rw [hg]; exact hc)
    simp only [scanF]
    rw [bcT (b := decide (pre.length < _)) (decide_eq_true hp), hr.1, hg, hf]; rfl
  | x :: a, pre, n + 1, hn, ha => by
    have hp : pre.length < (pre ++ (x :: a ++ c :: b)).length := by simp
    have hg : (pre ++ (x :: a ++ c :: b))[pre.length] = x := by simp
    have hx := ha x List.mem_cons_self
    have hr := rune_asc hp (by rw [hg]; exact hx.1)
    have ih := scan_stop f c b hc hf a (pre ++ [x]) n (by simp only [List.length_cons] at hn; omega) (fun y hy => ha y (List.mem_cons_of_mem _ hy))
    simp only [scanF]
    rw [bcT (b := decide (pre.length < _)) (decide_eq_true hp), hr.1, hg, hx.2, hr.2]
    show scanF f _ n (pre.length + 1) = _
    rw [show pre ++ (x :: a ++ c :: b) = (pre ++ [x]) ++ (a ++ c :: b) by simp, show pre.length + 1 = (pre ++ [x]).length by simp, ih]
    simp; omega
theorem scan_end (f : Int → Bool) : ∀ (a pre : List UInt8) (n : Nat), (∀ x ∈ a, x.toNat < 128 ∧ f x.toNat = true) → scanF f (pre ++ a) n pre.length = none
  | _, _, 0, _ => rfl
  | [], pre, n + 1, _ => by
    simp only [scanF]
    rw [bcF (b := decide (pre.length < _)) (by simp)]
  | x :: a, pre, n + 1, ha => by
    have hp : pre.length < (pre ++ (x :: a)).length := by simp
    have hg : (pre ++ (x :: a))[pre.length] = x := by simp
    have hx := ha x List.mem_cons_self
    have hr := rune_asc hp (by rw [hg]; exact hx.1)
    have ih := scan_end f a (pre ++ [x]) n (fun y hy => ha y (List.mem_cons_of_mem _ hy))
    simp only [scanF]
    rw [bcT (b := decide (pre.length < _)) (decide_eq_true hp), hr.1, hg, hx.2, hr.2]
    show scanF f _ n (pre.length + 1) = _
    rw [show pre ++ (x :: a) = (pre ++ [x]) ++ a by simp, show pre.length + 1 = (pre ++ [x]).length by simp, ih]
/-- Signs that are so are trimmed, up to one that is not. -/
theorem trim_stop {f : Int → Bool} {c : UInt8} {a b : List UInt8} (hc : c.toNat < 128) (hf : f c.toNat = false) (ha : ∀ x ∈ a, x.toNat < 128 ∧ f x.toNat = true) : trimF f (a ++ c :: b) = c :: b := by
  have := scan_stop f c b hc hf a [] (a ++ c :: b).length (by simp) ha
  simp only [List.nil_append, List.length_nil, Nat.zero_add] at this
  unfold trimF
  rw [this]
  simp [bcond]
theorem trim_end {f : Int → Bool} {a : List UInt8} (ha : ∀ x ∈ a, x.toNat < 128 ∧ f x.toNat = true) : trimF f a = [] := by
  have := scan_end f a [] a.length ha
  simp only [List.nil_append, List.length_nil] at this
  unfold trimF
  rw [this]; rfl
/-- A plain name has letters, digits and _ alone. -/
theorem plain_bytes : ∀ (n : Nat) (l : List UInt8) (p : Nat), l.length ≤ n + p → plainF l n p = true → ∀ k (hk : k < l.length), p ≤ k → l[k] ≠ 33 ∧ l[k] ≠ 39
  | 0, l, p, h1, _, k, hk, h2 => by omega
  | n + 1, l, p, h1, h, k, hk, h2 => by
    have hp : p < l.length := by omega
    simp only [plainF] at h
    rw [bcT (b := decide (p < l.length)) (decide_eq_true hp)] at h
    cases h3 : plainAt l p with
    | false => rw [h3] at h; cases h
    | true =>
      rw [h3] at h
      have h4 : (65 ≤ runeAt l p ∧ runeAt l p ≤ 90) ∨ (97 ≤ runeAt l p ∧ runeAt l p ≤ 122) ∨ runeAt l p = 95 ∨ (48 ≤ runeAt l p ∧ runeAt l p ≤ 57) := by
        unfold plainAt at h3
        cases e1 : letB (runeAt l p) with
        | true => unfold letB at e1; have := of_decide_eq_true e1; omega
        | false =>
          cases e2 : runeAt l p == 95 with
          | true => have := beq_iff_eq.1 e2; omega
          | false =>
            cases e3 : digB (runeAt l p) with
            | true => unfold digB at e3; have := of_decide_eq_true e3; omega
            | false => rw [e1, e2, e3] at h3; cases h3
      have h5 := rune_low hp (by omega)
      have h6 := rune_asc hp h5
      by_cases hkp : k = p
      · subst hkp
        refine ⟨fun e => ?_, fun e => ?_⟩
        · have : (l[k]).toNat = 33 := by rw [e]; rfl
          omega
        · have : (l[k]).toNat = 39 := by rw [e]; rfl
          omega
      · have h7 : plainF l n (p + (Utf8.decode ⟨l.toArray⟩ p).2) = true := h
        rw [h6.2] at h7
        exact plain_bytes n l (p + 1) (by omega) h7 k hk (by omega)
end Go.Proofs.YtanhlbdcjonaoaaDoor
