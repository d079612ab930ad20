/- Layer 26: what is known of the program ahead of all: the examples; whole numbers that are picked. -/
import Derived.Test.YtoekeplljjaehaaGr05
import Derived.Test.YtoekeplljjaehaaProg
import Derived.KernelRfl
set_option linter.unusedVariables false
set_option linter.unusedSimpArgs false
namespace Go.Proofs.Ytoekeplljjaehaa
open Go Sx

theorem host : ∀ (f : Nat) (fn : Func), Try.prog.funcs[f]? = some fn → (fn.name == "runtime.NumGoroutine") = false := by
  have h : (Try.prog.funcs.all fun fn => !(fn.name == "runtime.NumGoroutine")) = true := by kernel_rfl
  intro f fn hf
  have := Array.all_eq_true'.1 h fn (Array.mem_of_getElem? hf)
  simpa using this

/-- What a call comes to. -/
def Comes (T : Tab) (lv : FuncId → Lv) (f : FuncId) (args : List AV) (pre : List PObj) (x : Ans) : Prop :=
  ent (R := AV × List PObj) Try.prog T lv 64 18446744073709551616 30 f args pre pure2 = x.run pure2
theorem ans_comes {T : Tab} {lv : FuncId → Lv} {f : FuncId} {args : List AV} {pre : List PObj} {x : Ans} (hT : TabOK Try.prog T) (h : Comes T lv f args pre x) (hL : LvOK Try.prog lv := by exact nolv_ok) : AnsOK Try.prog f args pre x :=
  ans_of x fun res post k => meets_ent hT host (h.trans k) hL
/-- Answers that come to the same. -/
theorem of_run {f : FuncId} {args : List AV} {pre : List PObj} {x y : Ans} (h : AnsOK Try.prog f args pre x) (e : ∀ r, y.run pure2 = some r → x.run pure2 = some r) : AnsOK Try.prog f args pre y :=
  ans_of y fun res post k => by
    obtain ⟨a, b, h1, h2⟩ := Ans.sound x h (e _ k)
    cases h2; exact h1
theorem bcT {α : Type} {b : Bool} {x y : α} (h : b = true) : bcond b x y = x := by rw [h]; rfl
theorem bcF {α : Type} {b : Bool} {x y : α} (h : b = false) : bcond b x y = y := by rw [h]; rfl
theorem chk_run {b : Bool} {x : Ans} {r : AV × List PObj} (h : (Ans.chk b x).run pure2 = some r) : b = true ∧ x.run pure2 = some r := by
  cases b
  · cases h
  · exact ⟨rfl, h⟩

/-- The examples. -/
def eTrue : Ent := fun args pre => match args, pre with | [], [] => .ret (.bool true) [] | _, _ => .fail
set_option maxRecDepth 1000000 in
theorem awake_ok : EntOK Try.prog 10 eTrue := fun args pre => by
  unfold eTrue
  split
  · exact ans_comes (T := []) (lv := nolv) .nil (by unfold Comes; kernel_rfl)
  · trivial

end Go.Proofs.Ytoekeplljjaehaa
