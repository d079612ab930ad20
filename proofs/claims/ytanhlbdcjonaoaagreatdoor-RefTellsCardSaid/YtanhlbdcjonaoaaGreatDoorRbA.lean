/- Layer 2: what is known of the program ahead of all: functions without a text, whole numbers that are picked, the examples. -/
import Derived.Test.YtanhlbdcjonaoaaGreatDoorGr05
import Derived.Test.YtanhlbdcjonaoaaGreatDoorProg
import Derived.KernelRfl
set_option linter.unusedVariables false
set_option linter.unusedSimpArgs false
namespace Go.Proofs.YtanhlbdcjonaoaaGreatDoor
open Go Sx

theorem host : ∀ (f : Nat) (fn : Func), Tryz.prog.funcs[f]? = some fn → (fn.name == "runtime.NumGoroutine") = false := by
  have h : (Tryz.prog.funcs.all fun fn => !(fn.name == "runtime.NumGoroutine")) = true := by kernel_rfl
  intro f fn hf
  have := Array.all_eq_true'.1 h fn (Array.mem_of_getElem? hf)
  simpa using this

/-- What a call comes to. -/
def Comes (T : Tab) (lv : FuncId → Lv) (f : FuncId) (args : List AV) (pre : List PObj) (x : Ans) : Prop :=
  ent (R := AV × List PObj) Tryz.prog T lv 64 18446744073709551616 30 f args pre pure2 = x.run pure2
theorem ans_comes {T : Tab} {lv : FuncId → Lv} {f : FuncId} {args : List AV} {pre : List PObj} {x : Ans} (hT : TabOK Tryz.prog T) (h : Comes T lv f args pre x) (hL : LvOK Tryz.prog lv := by exact nolv_ok) : AnsOK Tryz.prog f args pre x :=
  ans_of x fun res post k => meets_ent hT host (h.trans k) hL

def tab0 : Tab := [(75, eSame), (110, eIndexByte), (102, eCount), (114, eMake 5)]
theorem tab0_ok : TabOK Tryz.prog tab0 :=
  .cons (eSame_ok Tryz.func75 (by kernel_rfl) (by kernel_rfl) (by kernel_rfl) (by kernel_rfl))
  (.cons (eIndexByte_ok Tryz.func110 (by kernel_rfl) (by kernel_rfl) (by kernel_rfl) (by kernel_rfl))
  (.cons (eCount_ok Tryz.func102 (by kernel_rfl) (by kernel_rfl) (by kernel_rfl) (by kernel_rfl))
  (.cons (eMake_ok (t := 71) Tryz.func114 (by kernel_rfl) (by kernel_rfl) (by kernel_rfl) (by kernel_rfl) (by kernel_rfl)) .nil)))

/-- Answers that come to the same. -/
theorem of_run {f : FuncId} {args : List AV} {pre : List PObj} {x y : Ans} (h : AnsOK Tryz.prog f args pre x) (e : ∀ r, y.run pure2 = some r → x.run pure2 = some r) : AnsOK Tryz.prog f args pre y :=
  ans_of y fun res post k => by
    obtain ⟨a, b, h1, h2⟩ := Ans.sound x h (e _ k)
    cases h2; exact h1
theorem bcT {α : Type} {b : Bool} {x y : α} (h : b = true) : bcond b x y = x := by rw [h]; rfl
theorem bcF {α : Type} {b : Bool} {x y : α} (h : b = false) : bcond b x y = y := by rw [h]; rfl
theorem chk_run {b : Bool} {x : Ans} {r : AV × List PObj} (h : (Ans.chk b x).run pure2 = some r) : b = true ∧ x.run pure2 = some r := by
  cases b
  · cases h
  · exact ⟨rfl, h⟩

/-- The examples. -/
def eTrue : Ent := fun args pre => match args, pre with | [], [] => .ret (.bool true) [] | _, _ => .fail
set_option maxRecDepth 1000000 in
theorem awake_ok : EntOK Tryz.prog 4 eTrue := fun args pre => by
  unfold eTrue
  split
  · exact ans_comes (lv := nolv) tab0_ok (by unfold Comes; kernel_rfl)
  · trivial

def inI (a : Int) : Bool := decide (-9223372036854775808 ≤ a ∧ a < 9223372036854775808)
theorem inI_iff {a : Int} : inI a = true ↔ -9223372036854775808 ≤ a ∧ a < 9223372036854775808 := by simp [inI]
/-- pick: which of n things. -/
def pickS (a n : Int) : Int := if a < 0 then (-(a + 1)).tmod n else a.tmod n
theorem pickS_bd {a n : Int} (h : 0 < n) : 0 ≤ pickS a n ∧ pickS a n < n := by
  unfold pickS
  split
  · rw [Int.tmod_eq_emod_of_nonneg (by omega)]; exact ⟨Int.emod_nonneg _ (by omega), Int.emod_lt_of_pos _ h⟩
  · rw [Int.tmod_eq_emod_of_nonneg (by omega)]; exact ⟨Int.emod_nonneg _ (by omega), Int.emod_lt_of_pos _ h⟩
def ePick : Ent := fun args pre => match args, pre with
  | [.int .i64 a, .int .i64 n], [] => .chk (inI a && decide (0 < n)) (.ret (.int .i64 (pickS a n)) [])
  | _, _ => .fail
theorem pick_ok : EntOK Tryz.prog 7 ePick := fun args pre => by
  unfold ePick
  split
  · rename_i a n
    have e : Comes tab0 nolv 7 [.int .i64 a, .int .i64 n] [] (.br (decide (a < 0)) (.chk (n != 0) (.ret (.int .i64 ((IntKind.i64.wrap (0 - IntKind.i64.wrap (a + 1))).tmod n)) [])) (.chk (n != 0) (.ret (.int .i64 (a.tmod n)) []))) := by unfold Comes; kernel_rfl
    refine of_run (ans_comes tab0_ok e) fun r h => ?_
    obtain ⟨h1, h⟩ := chk_run h
    simp only [Bool.and_eq_true, inI_iff, decide_eq_true_eq] at h1
    have hn : (n != 0) = true := by simpa using (by omega : n ≠ 0)
    rw [← h]
    simp only [Ans.run, Ans.chk, hn]
    unfold pickS
    by_cases h0 : a < 0
    · rw [bcT (by simpa using h0), if_pos h0, i64_in (n := a + 1) (by omega) (by omega), i64_in (by omega) (by omega), Int.zero_sub]; rfl
    · rw [bcF (by simpa using h0), if_neg h0]; rfl
  · trivial

end Go.Proofs.YtanhlbdcjonaoaaGreatDoor
