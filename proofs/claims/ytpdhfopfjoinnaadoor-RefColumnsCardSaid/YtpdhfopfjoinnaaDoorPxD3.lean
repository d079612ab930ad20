/- The evaluator, part D3: in which order the operations of a region may come, told fast. -/
import Derived.Test.YtpdhfopfjoinnaaDoorPxD2
set_option linter.unusedVariables false
namespace Go.Proofs.YtpdhfopfjoinnaaDoor.Sx
open Go
variable {P : Program}

def maskOf (M : List Nat) (d : List Nat) : Nat := d.foldl (fun m k => m ||| (1 <<< k) ||| M.getD k 0) 0
def ancM : List (List Nat) → List Nat → List Nat
  | [], acc => acc
  | d :: ds, acc => ancM ds (acc ++ [maskOf acc d])
/-- Each mask is what the edges and the masks of what lies ahead make. -/
def maskOK (ops : Array Oper) (M : List Nat) : Bool :=
  Nat.beq M.length ops.size && (List.range ops.size).all fun i => Nat.beq (M.getD i 0) (maskOf M (directI ops i)) && (directI ops i).all fun k => Nat.blt k i
def pairsF (ops : Array Oper) (M : List Nat) (LG : Nat → Foot) : Bool :=
  (List.range ops.size).all fun i => (List.range i).all fun k => (M.getD i 0).testBit k || indepI ops LG k i
def orderF (P : Program) (ops : Array Oper) (fs : List Foot) : Bool :=
  let M := ancM (ops.toList.map direct) []
  P.follows .mixedOrders && maskOK ops M && pairsF ops M (fun i => fs.getD i .no)

theorem maskOf_testBit (M : List Nat) (m : Nat) : ∀ (d : List Nat) (a : Nat), (d.foldl (fun m k => m ||| (1 <<< k) ||| M.getD k 0) a).testBit m = (a.testBit m || d.any fun k => decide (k = m) || (M.getD k 0).testBit m)
  | [], a => by simp
  | k :: d, a => by
    rw [List.foldl_cons, maskOf_testBit M m d, Nat.testBit_or, Nat.testBit_or, Nat.one_shiftLeft, Nat.testBit_two_pow, List.any_cons, Bool.or_assoc, Bool.or_assoc, Bool.or_assoc]

def ancL (n : Nat) (M : List Nat) : List (List Nat) := M.map fun x => (List.range n).filter fun k => x.testBit k
theorem ancL_get {n : Nat} {M : List Nat} {i : Nat} (h : i < M.length) : (ancL n M).getD i [] = (List.range n).filter fun k => (M.getD i 0).testBit k := by
  simp [ancL, List.getD, h]

theorem orderF_sound {ops : Array Oper} {fs : List Foot} (h : orderF P ops fs = true) : ∃ A, P.follows .mixedOrders = true ∧ ancOK ops A = true ∧ pairsOK ops A (fun i => fs.getD i .no) = true := by
  simp only [orderF, Bool.and_eq_true] at h
  obtain ⟨⟨h1, h2⟩, h3⟩ := h
  generalize ancM (ops.toList.map direct) [] = M at h2 h3
  simp only [maskOK, Bool.and_eq_true] at h2
  obtain ⟨hl, h2⟩ := h2
  have hl := beqT.1 hl
  refine ⟨ancL ops.size M, h1, ?_, ?_⟩
  · unfold ancOK
    refine List.all_eq_true.2 fun i hi => ?_
    have hi' : i < ops.size := List.mem_range.1 hi
    have h2i := List.all_eq_true.1 h2 i hi
    simp only [Bool.and_eq_true] at h2i
    obtain ⟨g1, g2⟩ := h2i
    have g1 := beqT.1 g1
    simp only [Bool.and_eq_true]
    refine ⟨List.all_eq_true.2 fun k hk => ?_, List.all_eq_true.2 fun m hm => ?_⟩
    · have := bltT.1 (List.all_eq_true.1 g2 k hk); simpa using this
    · rw [ancL_get (by omega), List.mem_filter, List.mem_range] at hm
      obtain ⟨hm1, hm2⟩ := hm
      rw [g1, maskOf, maskOf_testBit, Nat.zero_testBit, Bool.false_or, List.any_eq_true] at hm2
      obtain ⟨k, hk, hk2⟩ := hm2
      simp only [Bool.or_eq_true, decide_eq_true_eq] at hk2 ⊢
      rcases hk2 with rfl | hk2
      · exact .inl (by simpa using hk)
      · refine .inr (List.any_eq_true.2 ⟨k, hk, ?_⟩)
        have hki := bltT.1 (List.all_eq_true.1 g2 k hk)
        rw [ancL_get (by omega), List.contains_iff_mem, List.mem_filter, List.mem_range]
        exact ⟨hm1, hk2⟩
  · unfold pairsOK
    unfold pairsF at h3
    refine List.all_eq_true.2 fun i hi => List.all_eq_true.2 fun k hk => ?_
    have := List.all_eq_true.1 (List.all_eq_true.1 h3 i hi) k hk
    have hi' : i < ops.size := List.mem_range.1 hi
    have hk' : k < i := List.mem_range.1 hk
    rw [ancL_get (by omega)]
    simp only [Bool.or_eq_true] at this ⊢
    rcases this with h | h
    · refine .inl ?_
      rw [List.contains_iff_mem, List.mem_filter, List.mem_range]
      exact ⟨by omega, h⟩
    · exact .inr h

end Go.Proofs.YtpdhfopfjoinnaaDoor.Sx
