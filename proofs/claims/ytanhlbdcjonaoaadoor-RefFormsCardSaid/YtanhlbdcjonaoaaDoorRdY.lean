/- Layer 2: texts that are built. -/
import Derived.Test.YtanhlbdcjonaoaaDoorRdX
set_option linter.unusedVariables false
set_option linter.unusedSimpArgs false
namespace Go.Proofs.YtanhlbdcjonaoaaDoor
open Go Sx

def bNew : PObj := .raw (.cells [.nilptr, .nilslice] 60)
def bOn (k m : Nat) : PObj := .raw (.cells [.ptr 0 0, .vec k m] 60)
theorem room_ok {a : List UInt8} {m k : Nat} (h1 : a.length = m) (h2 : m + k ≤ 1000000) : roomB a m k = true := by
  unfold roomB
  rw [Bool.true_and, Bool.and_eq_true, decide_eq_true_eq, decide_eq_true_eq]
  exact ⟨by show a.length = m * 1; omega, by omega⟩
def eWS : Ent := fun args pre => match args, pre with
  | [.ptr 0 0, .str x], [.raw (.cells [.nilptr, .nilslice] 60)] => .chk (decide (0 < x.length ∧ x.length ≤ 1000000)) (.ret (.tuple [.int .i64 (x.length : Int), .niliface]) [bOn 1 x.length, .vecB x 5])
  | [.ptr 0 0, .str x], [.raw (.cells [.ptr 0 0, .vec 1 m] 60), .vecB acc 5] => .chk (decide (acc.length = m ∧ m + x.length ≤ 1000000)) (.ret (.tuple [.int .i64 (x.length : Int), .niliface]) [bOn 2 (m + x.length), .raw .dead, .vecB (acc ++ x) 5])
  | _, _ => .fail
theorem ws_ok : EntOK Tryd.prog 26 eWS := fun args pre => by
  unfold eWS
  split
  · rename_i x
    have e : Comes tab0 nolv 26 [.ptr 0 0, .str x] [bNew] (.br (decide (0 < x.length)) (.br (true && decide (2 * x.length * 1 ≤ 281474976710656 ∧ 2 * x.length < 9223372036854775808)) (.ret (.tuple [.int .i64 (x.length : Int), .niliface]) [bOn 1 x.length, .vecB x 5]) .fail)
      (.ret (.tuple [.int .i64 (x.length : Int), .niliface]) [.raw (.cells [.ptr 0 0, .nilslice] 60)])) := by unfold Comes; kernel_rfl
    refine of_run (ans_comes tab0_ok e) fun r h => ?_
    obtain ⟨h1, h⟩ := chk_run h
    have h1 := of_decide_eq_true h1
    rw [← h]
    simp only [Ans.run]
    rw [bcT (b := decide (0 < x.length)) (decide_eq_true h1.1), bcT (b := true && _) (by rw [Bool.true_and, decide_eq_true_eq]; omega)]
  · rename_i x m acc
    have e : Comes tab0 nolv 26 [.ptr 0 0, .str x] [bOn 1 m, .vecB acc 5] (.br (roomB acc m x.length) (.ret (.tuple [.int .i64 (x.length : Int), .niliface]) [bOn 2 (m + x.length), .raw .dead, .vecB (acc ++ x) 5]) .fail) := by unfold Comes; kernel_rfl
    refine of_run (ans_comes tab0_ok e) fun r h => ?_
    obtain ⟨h1, h⟩ := chk_run h
    have h1 := of_decide_eq_true h1
    rw [← h]
    simp only [Ans.run]
    rw [bcT (b := roomB acc m x.length) (room_ok h1.1 h1.2)]
  · trivial
def eWB : Ent := fun args pre => match args, pre with
  | [.ptr 0 0, .int .u8 36], [.raw (.cells [.nilptr, .nilslice] 60)] => .ret .niliface [bOn 1 1, .vecB [36] 5]
  | [.ptr 0 0, .int .u8 36], [.raw (.cells [.ptr 0 0, .vec 1 m] 60), .vecB acc 5] => .chk (decide (acc.length = m ∧ m + 1 ≤ 1000000)) (.ret .niliface [bOn 2 (m + 1), .raw .dead, .vecB (acc ++ [36]) 5])
  | [.ptr 0 0, .int .u8 33], [.raw (.cells [.ptr 0 0, .vec 1 m] 60), .vecB acc 5] => .chk (decide (acc.length = m ∧ m + 1 ≤ 1000000)) (.ret .niliface [bOn 2 (m + 1), .raw .dead, .vecB (acc ++ [33]) 5])
  | _, _ => .fail
theorem wb_ok : EntOK Tryd.prog 28 eWB := fun args pre => by
  unfold eWB
  split
  · have e : Comes tab0 nolv 28 [.ptr 0 0, .int .u8 36] [bNew] (.ret .niliface [bOn 1 1, .vecB [36] 5]) := by unfold Comes; kernel_rfl
    exact of_run (ans_comes tab0_ok e) fun r h => h
  · rename_i m acc
    have e : Comes tab0 nolv 28 [.ptr 0 0, .int .u8 36] [bOn 1 m, .vecB acc 5] (.br (roomB acc m 1) (.ret .niliface [bOn 2 (m + 1), .raw .dead, .vecB (acc ++ [36]) 5]) .fail) := by unfold Comes; kernel_rfl
    refine of_run (ans_comes tab0_ok e) fun r h => ?_
    obtain ⟨h1, h⟩ := chk_run h
    have h1 := of_decide_eq_true h1
    rw [← h]
    simp only [Ans.run]
    rw [bcT (b := roomB acc m 1) (room_ok h1.1 h1.2)]
  · rename_i m acc
    have e : Comes tab0 nolv 28 [.ptr 0 0, .int .u8 33] [bOn 1 m, .vecB acc 5] (.br (roomB acc m 1) (.ret .niliface [bOn 2 (m + 1), .raw .dead, .vecB (acc ++ [33]) 5]) .fail) := by unfold Comes; kernel_rfl
    refine of_run (ans_comes tab0_ok e) fun r h => ?_
    obtain ⟨h1, h⟩ := chk_run h
    have h1 := of_decide_eq_true h1
    rw [← h]
    simp only [Ans.run]
    rw [bcT (b := roomB acc m 1) (room_ok h1.1 h1.2)]
  · trivial
def eBS : Ent := fun args pre => match args, pre with
  | [.ptr 0 0], [.raw (.cells [.ptr 0 0, .vec 1 m] 60), .vecB acc 5] => .chk (decide (0 < acc.length ∧ acc.length = m ∧ m ≤ 1000000)) (.ret (.str acc) [bOn 1 m, .shutB acc 5])
  | [.ptr 0 0], [.raw (.cells [.ptr 0 0, .vec 1 m] 60), .shutB acc 5] => .chk (decide (0 < acc.length ∧ acc.length = m ∧ m ≤ 1000000)) (.ret (.str acc) [bOn 1 m, .shutB acc 5])
  | _, _ => .fail
theorem bs_ok : EntOK Tryd.prog 31 eBS := fun args pre => by
  unfold eBS
  split
  · rename_i m acc
    have e : Comes tab0 nolv 31 [.ptr 0 0] [bOn 1 m, .vecB acc 5] (.br (decide (0 < acc.length)) (.br (((m : Int) == (acc.length : Int)) && !acc.isEmpty && decide (acc.length < 9223372036854775808)) (.ret (.str acc) [bOn 1 m, .shutB acc 5]) .fail) .fail) := by unfold Comes; kernel_rfl
    refine of_run (ans_comes tab0_ok e) fun r h => ?_
    obtain ⟨h1, h⟩ := chk_run h
    obtain ⟨h1, h2, h3⟩ := of_decide_eq_true h1
    rw [← h]
    simp only [Ans.run]
    have hne : acc.isEmpty = false := by cases acc with | nil => simp at h1 | cons a b => rfl
    rw [bcT (b := decide (0 < acc.length)) (decide_eq_true h1), bcT (b := _ && _ && _) (by rw [hne, h2, beq_self_eq_true, decide_eq_true (by omega)]; rfl)]
  · rename_i m acc
    have e : Comes tab0 nolv 31 [.ptr 0 0] [bOn 1 m, .shutB acc 5] (.br (decide (0 < acc.length)) (.br (((m : Int) == (acc.length : Int)) && !acc.isEmpty && decide (acc.length < 9223372036854775808)) (.ret (.str acc) [bOn 1 m, .shutB acc 5]) .fail) .fail) := by unfold Comes; kernel_rfl
    refine of_run (ans_comes tab0_ok e) fun r h => ?_
    obtain ⟨h1, h⟩ := chk_run h
    obtain ⟨h1, h2, h3⟩ := of_decide_eq_true h1
    rw [← h]
    simp only [Ans.run]
    have hne : acc.isEmpty = false := by cases acc with | nil => simp at h1 | cons a b => rfl
    rw [bcT (b := decide (0 < acc.length)) (decide_eq_true h1), bcT (b := _ && _ && _) (by rw [hne, h2, beq_self_eq_true, decide_eq_true (by omega)]; rfl)]
  · trivial
/-- A name as it is written. -/
def wriS (l : List UInt8) : List UInt8 := bcond (plainF l l.length 0) l ([39] ++ dblS l ++ [39])
def eWritten : Ent := fun args pre => match args, pre with
  | [.str l], [] => .chk (decide (l.length ≤ 1000000)) (.ret (.str (wriS l)) [])
  | _, _ => .fail
theorem dbl_len : ∀ (l : List UInt8), (dblS l).length ≤ 2 * l.length
  | [] => Nat.le_refl _
  | c :: r => by
    have := dbl_len r
    unfold dblS
    split <;> simp only [List.length_cons] <;> omega
theorem written_ok : EntOK Tryd.prog 27 eWritten := fun args pre => by
  unfold eWritten
  split
  · rename_i l
    have e : Comes tabR nolv 27 [.str l] [] (.br (plainF l l.length 0) (.ret (.str l) []) (.br (decide (l.length ≤ 1000000)) (.br (decide ([39].length + (dblS l).length ≤ 9223372036854775807)) (.br (decide (([39] ++ dblS l).length + [39].length ≤ 9223372036854775807)) (.ret (.str ([39] ++ dblS l ++ [39])) []) .fail) .fail) .fail)) := by unfold Comes; kernel_rfl
    refine of_run (ans_comes tabR_ok e) fun r h => ?_
    obtain ⟨h1, h⟩ := chk_run h
    have h1 := of_decide_eq_true h1
    have hd := dbl_len l
    rw [← h]
    simp only [Ans.run, wriS]
    cases plainF l l.length 0 with
    | true => rfl
    | false =>
      simp only [bcond]
      rw [decide_eq_true h1, decide_eq_true (by simp only [List.length_cons, List.length_nil]; omega), decide_eq_true (by simp only [List.length_append, List.length_cons, List.length_nil]; omega)]
  · trivial
end Go.Proofs.YtanhlbdcjonaoaaDoor
