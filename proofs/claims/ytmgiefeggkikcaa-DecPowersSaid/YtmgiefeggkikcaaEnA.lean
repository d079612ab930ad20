/- Layer 1: what is known of the program, as entries; the examples. -/
import Derived.Test.YtmgiefeggkikcaaPx1
import Derived.Test.YtmgiefeggkikcaaDecU
import Derived.Test.YtmgiefeggkikcaaDecZ
set_option linter.unusedVariables false
set_option linter.unusedSimpArgs false
namespace Go.Proofs.Ytmgiefeggkikcaa
open Go Sx Dc

theorem host : ∀ (f : Nat) (fn : Func), Try.prog.funcs[f]? = some fn → (fn.name == "runtime.NumGoroutine") = false := by
  have h : (Try.prog.funcs.all fun fn => !(fn.name == "runtime.NumGoroutine")) = true := by kernel_rfl
  intro f fn hf
  have := Array.all_eq_true'.1 h fn (Array.mem_of_getElem? hf)
  simpa using this
/-- What a call comes to. -/
def Comes (T : Tab) (lv : FuncId → Lv) (f : FuncId) (args : List AV) (pre : List PObj) (x : Ans) : Prop :=
  ent (R := AV × List PObj) Try.prog T lv 64 18446744073709551616 30 f args pre pure2 = x.run pure2
theorem ans_comes {T : Tab} {lv : FuncId → Lv} {f : FuncId} {args : List AV} {pre : List PObj} {x : Ans} (hT : TabOK Try.prog T) (h : Comes T lv f args pre x) (hL : LvOK Try.prog lv := by exact nolv_ok) : AnsOK Try.prog f args pre x :=
  ans_of x fun res post k => meets_ent hT host (h.trans k) hL
/-- Answers that come to the same. -/
theorem of_run {f : FuncId} {args : List AV} {pre : List PObj} {x y : Ans} (h : AnsOK Try.prog f args pre x) (e : ∀ r, y.run pure2 = some r → x.run pure2 = some r) : AnsOK Try.prog f args pre y :=
  ans_of y fun res post k => by
    obtain ⟨a, b, h1, h2⟩ := Ans.sound x h (e _ k)
    cases h2; exact h1
theorem bcT {α : Type} {b : Bool} {x y : α} (h : b = true) : bcond b x y = x := by rw [h]; rfl
theorem bcF {α : Type} {b : Bool} {x y : α} (h : b = false) : bcond b x y = y := by rw [h]; rfl
def inI (a : Int) : Bool := decide (-9223372036854775808 ≤ a ∧ a < 9223372036854775808)
theorem inI_iff {a : Int} : inI a = true ↔ -9223372036854775808 ≤ a ∧ a < 9223372036854775808 := by simp [inI]

/-- Entries out of contracts: of two decimals, of one, of one and a number, of a number. -/
def e2 (g : Int → Int → Int → Int → AV) : Ent := fun args pre => match args, pre with
  | [.agg [.int .i64 a, .int .i64 b], .agg [.int .i64 c, .int .i64 d]], [] => .ret (g a b c d) []
  | _, _ => .fail
theorem e2_ok {f : FuncId} {g : Int → Int → Int → Int → AV} (h : ∀ a b c d, Meets Try.prog f [.agg [.int .i64 a, .int .i64 b], .agg [.int .i64 c, .int .i64 d]] [] (g a b c d) []) : EntOK Try.prog f (e2 g) := fun args pre => by
  unfold e2; split
  · exact h _ _ _ _
  · trivial
def e1 (g : Int → Int → AV) : Ent := fun args pre => match args, pre with
  | [.agg [.int .i64 a, .int .i64 b]], [] => .ret (g a b) []
  | _, _ => .fail
theorem e1_ok {f : FuncId} {g : Int → Int → AV} (h : ∀ a b, Meets Try.prog f [.agg [.int .i64 a, .int .i64 b]] [] (g a b) []) : EntOK Try.prog f (e1 g) := fun args pre => by
  unfold e1; split
  · exact h _ _
  · trivial
def e1r (g : Int → Int → AV) : Ent := fun args pre => match args, pre with
  | [.agg [.int .i64 a, .int .i64 b]], [] => .chk (inI a && inI b) (.ret (g a b) [])
  | _, _ => .fail
theorem e1r_ok {f : FuncId} {g : Int → Int → AV} (h : ∀ a b, inI a = true → inI b = true → Meets Try.prog f [.agg [.int .i64 a, .int .i64 b]] [] (g a b) []) : EntOK Try.prog f (e1r g) := fun args pre => by
  unfold e1r; split
  · refine ⟨fun hb => ?_, fun _ => trivial⟩
    rw [Bool.and_eq_true] at hb
    exact h _ _ hb.1 hb.2
  · trivial
def e1i (g : Int → Int → Int → AV) : Ent := fun args pre => match args, pre with
  | [.agg [.int .i64 a, .int .i64 b], .int .i64 c], [] => .chk (inI c) (.ret (g a b c) [])
  | _, _ => .fail
theorem e1i_ok {f : FuncId} {g : Int → Int → Int → AV} (h : ∀ a b c, inI c = true → Meets Try.prog f [.agg [.int .i64 a, .int .i64 b], .int .i64 c] [] (g a b c) []) : EntOK Try.prog f (e1i g) := fun args pre => by
  unfold e1i; split
  · exact ⟨fun hb => h _ _ _ hb, fun _ => trivial⟩
  · trivial
def ei (g : Int → AV) : Ent := fun args pre => match args, pre with
  | [.int .i64 c], [] => .chk (inI c && decide (c ≠ -9223372036854775808)) (.ret (g c) [])
  | _, _ => .fail
theorem ei_ok {f : FuncId} {g : Int → AV} (h : ∀ c, -9223372036854775808 < c ∧ c < 9223372036854775808 → Meets Try.prog f [.int .i64 c] [] (g c) []) : EntOK Try.prog f (ei g) := fun args pre => by
  unfold ei; split
  · refine ⟨fun hb => h _ ?_, fun _ => trivial⟩
    rw [Bool.and_eq_true, inI_iff, decide_eq_true_eq] at hb
    omega
  · trivial
def ePick : Ent := fun args pre => match args, pre with
  | [.int .i64 c, .int .i64 n], [] => .chk (inI c && decide (0 < n)) (.ret (.int .i64 (pickR c n)) [])
  | _, _ => .fail
theorem ePick_ok : EntOK Try.prog 19 ePick := fun args pre => by
  unfold ePick; split
  · refine ⟨fun hb => ?_, fun _ => trivial⟩
    rw [Bool.and_eq_true, inI_iff, decide_eq_true_eq] at hb
    exact pick_meets _ _ hb.1 hb.2
  · trivial
theorem round_any (a b k : Int) (h : inI k = true) : Meets Try.prog 28 [.agg [.int .i64 a, .int .i64 b], .int .i64 k] [] (R3 (roundR a b k)) [] :=
  round_meets a b k (inI_iff.1 h) (48 + k).toNat (40 - k).toNat (fun h => by omega) (fun h => by omega)

def tabE : Tab := [(83, eSame), (90, eIndexByte), (22, e2 fun a b c d => R3 (addR a b c d)), (23, e2 fun a b c d => R3 (mulR a b c d)), (24, e2 fun a b c d => R3 (subR a b c d)), (25, e2 fun a b c d => R3 (divR a b c d)),
  (27, e2 fun a b c d => .int .i64 (cmpR a b c d)), (30, e1 fun a b => .bool (rightB a b)), (26, e1 fun a b => .tuple [.int .i64 (floorR a b).1, .int .i64 (floorR a b).2]),
  (28, e1i fun a b k => R3 (roundR a b k)), (20, e1i fun a b n => R3 (powR a b n)), (15, ei fun n => R3 (ofR n)), (52, ei fun n => .int .i64 ((n.natAbs : Nat) : Int))]
theorem tabE_ok : TabOK Try.prog tabE :=
  .cons (eSame_ok Try.func83 (by kernel_rfl) (by kernel_rfl) (by kernel_rfl) (by kernel_rfl))
  (.cons (eIndexByte_ok Try.func90 (by kernel_rfl) (by kernel_rfl) (by kernel_rfl) (by kernel_rfl))
  (.cons (e2_ok add_meets) (.cons (e2_ok mul_meets) (.cons (e2_ok sub_meets) (.cons (e2_ok div_meets) (.cons (e2_ok cmp_meets) (.cons (e1_ok right_meets) (.cons (e1_ok floor_meets)
  (.cons (e1i_ok round_any) (.cons (e1i_ok fun a b n h => power_meets a b n (inI_iff.1 h)) (.cons (ei_ok of_meets) (.cons (ei_ok size_meets) .nil))))))))))))
end Go.Proofs.Ytmgiefeggkikcaa
