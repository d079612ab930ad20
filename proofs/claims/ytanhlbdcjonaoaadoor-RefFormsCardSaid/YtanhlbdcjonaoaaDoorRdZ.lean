/- Layer 2: references as texts. -/
import Derived.Test.YtanhlbdcjonaoaaDoorRdZ0
set_option linter.unusedVariables false
set_option linter.unusedSimpArgs false
namespace Go.Proofs.YtanhlbdcjonaoaaDoor
open Go Sx

def txtT (s : List UInt8) (r c : Int) (a b d : Bool) (V K T : List UInt8) (R : Int) : Ans :=
  .br (!rightB ⟨s, r, c, a, b, d⟩)
   (.ret (.tuple [.str [], .int IntKind.i64 20]) [])
   (.br (d)
   (.ret (.tuple [.str [35, 82, 69, 70, 33], .int IntKind.i64 0]) [])
   (.br (!s == [])
   (.br (decide (s.length ≤ 1000000))
   (.br (decide (0 < V.length ∧ V.length ≤ 1000000))
   (.br (decide (V.length = V.length ∧ V.length + 1 ≤ 1000000))
   (.br (inI c)
   (.br (colB c)
   (.br (b)
   (.br (decide ((V ++ [33]).length = V.length + 1 ∧ V.length + 1 + 1 ≤ 1000000))
   (.br (decide ((V ++ [33] ++ [36]).length = V.length + 1 + 1 ∧ V.length + 1 + 1 + (K).length ≤ 1000000))
   (.br (a)
   (.br (decide ((V ++ [33] ++ [36] ++ K).length = V.length + 1 + 1 + (K).length ∧ V.length + 1 + 1 + (K).length + 1 ≤ 1000000))
   (.br (decide ((1 : Int) ≤ R ∧ R ≤ 200))
   (.br (decide ((V ++ [33] ++ [36] ++ K ++ [36]).length = V.length + 1 + 1 + (K).length + 1 ∧ V.length + 1 + 1 + (K).length + 1 + (T).length ≤ 1000000))
   (.br (decide (0 < (V ++ [33] ++ [36] ++ K ++ [36] ++ T).length ∧ (V ++ [33] ++ [36] ++ K ++ [36] ++ T).length = V.length + 1 + 1 + (K).length + 1 + (T).length ∧ V.length + 1 + 1 + (K).length + 1 + (T).length ≤ 1000000))
   (.ret (.tuple [.str (V ++ [33] ++ [36] ++ K ++ [36] ++ T), .int IntKind.i64 0]) [])
   (.fail))
   (.fail))
   (.fail))
   (.fail))
   (.br (decide ((1 : Int) ≤ R ∧ R ≤ 200))
   (.br (decide ((V ++ [33] ++ [36] ++ K).length = V.length + 1 + 1 + (K).length ∧ V.length + 1 + 1 + (K).length + (T).length ≤ 1000000))
   (.br (decide (0 < (V ++ [33] ++ [36] ++ K ++ T).length ∧ (V ++ [33] ++ [36] ++ K ++ T).length = V.length + 1 + 1 + (K).length + (T).length ∧ V.length + 1 + 1 + (K).length + (T).length ≤ 1000000))
   (.ret (.tuple [.str (V ++ [33] ++ [36] ++ K ++ T), .int IntKind.i64 0]) [])
   (.fail))
   (.fail))
   (.fail)))
   (.fail))
   (.fail))
   (.br (decide ((V ++ [33]).length = V.length + 1 ∧ V.length + 1 + (K).length ≤ 1000000))
   (.br (a)
   (.br (decide ((V ++ [33] ++ K).length = V.length + 1 + (K).length ∧ V.length + 1 + (K).length + 1 ≤ 1000000))
   (.br (decide ((1 : Int) ≤ R ∧ R ≤ 200))
   (.br (decide ((V ++ [33] ++ K ++ [36]).length = V.length + 1 + (K).length + 1 ∧ V.length + 1 + (K).length + 1 + (T).length ≤ 1000000))
   (.br (decide (0 < (V ++ [33] ++ K ++ [36] ++ T).length ∧ (V ++ [33] ++ K ++ [36] ++ T).length = V.length + 1 + (K).length + 1 + (T).length ∧ V.length + 1 + (K).length + 1 + (T).length ≤ 1000000))
   (.ret (.tuple [.str (V ++ [33] ++ K ++ [36] ++ T), .int IntKind.i64 0]) [])
   (.fail))
   (.fail))
   (.fail))
   (.fail))
   (.br (decide ((1 : Int) ≤ R ∧ R ≤ 200))
   (.br (decide ((V ++ [33] ++ K).length = V.length + 1 + (K).length ∧ V.length + 1 + (K).length + (T).length ≤ 1000000))
   (.br (decide (0 < (V ++ [33] ++ K ++ T).length ∧ (V ++ [33] ++ K ++ T).length = V.length + 1 + (K).length + (T).length ∧ V.length + 1 + (K).length + (T).length ≤ 1000000))
   (.ret (.tuple [.str (V ++ [33] ++ K ++ T), .int IntKind.i64 0]) [])
   (.fail))
   (.fail))
   (.fail)))
   (.fail)))
   (.br (b)
   (.br (decide ((V ++ [33]).length = V.length + 1 ∧ V.length + 1 + 1 ≤ 1000000))
   (.br (decide ((V ++ [33] ++ [36]).length = V.length + 1 + 1 ∧ V.length + 1 + 1 + ([] : List UInt8).length ≤ 1000000))
   (.br (a)
   (.br (decide ((V ++ [33] ++ [36] ++ []).length = V.length + 1 + 1 + ([] : List UInt8).length ∧ V.length + 1 + 1 + ([] : List UInt8).length + 1 ≤ 1000000))
   (.br (decide ((1 : Int) ≤ R ∧ R ≤ 200))
   (.br (decide ((V ++ [33] ++ [36] ++ [] ++ [36]).length = V.length + 1 + 1 + ([] : List UInt8).length + 1 ∧ V.length + 1 + 1 + ([] : List UInt8).length + 1 + (T).length ≤ 1000000))
   (.br (decide (0 < (V ++ [33] ++ [36] ++ [] ++ [36] ++ T).length ∧ (V ++ [33] ++ [36] ++ [] ++ [36] ++ T).length = V.length + 1 + 1 + ([] : List UInt8).length + 1 + (T).length ∧ V.length + 1 + 1 + ([] : List UInt8).length + 1 + (T).length ≤ 1000000))
   (.ret (.tuple [.str (V ++ [33] ++ [36] ++ [] ++ [36] ++ T), .int IntKind.i64 0]) [])
   (.fail))
   (.fail))
   (.fail))
   (.fail))
   (.br (decide ((1 : Int) ≤ R ∧ R ≤ 200))
   (.br (decide ((V ++ [33] ++ [36] ++ []).length = V.length + 1 + 1 + ([] : List UInt8).length ∧ V.length + 1 + 1 + ([] : List UInt8).length + (T).length ≤ 1000000))
   (.br (decide (0 < (V ++ [33] ++ [36] ++ [] ++ T).length ∧ (V ++ [33] ++ [36] ++ [] ++ T).length = V.length + 1 + 1 + ([] : List UInt8).length + (T).length ∧ V.length + 1 + 1 + ([] : List UInt8).length + (T).length ≤ 1000000))
   (.ret (.tuple [.str (V ++ [33] ++ [36] ++ [] ++ T), .int IntKind.i64 0]) [])
   (.fail))
   (.fail))
   (.fail)))
   (.fail))
   (.fail))
   (.br (decide ((V ++ [33]).length = V.length + 1 ∧ V.length + 1 + ([] : List UInt8).length ≤ 1000000))
   (.br (a)
   (.br (decide ((V ++ [33] ++ []).length = V.length + 1 + ([] : List UInt8).length ∧ V.length + 1 + ([] : List UInt8).length + 1 ≤ 1000000))
   (.br (decide ((1 : Int) ≤ R ∧ R ≤ 200))
   (.br (decide ((V ++ [33] ++ [] ++ [36]).length = V.length + 1 + ([] : List UInt8).length + 1 ∧ V.length + 1 + ([] : List UInt8).length + 1 + (T).length ≤ 1000000))
   (.br (decide (0 < (V ++ [33] ++ [] ++ [36] ++ T).length ∧ (V ++ [33] ++ [] ++ [36] ++ T).length = V.length + 1 + ([] : List UInt8).length + 1 + (T).length ∧ V.length + 1 + ([] : List UInt8).length + 1 + (T).length ≤ 1000000))
   (.ret (.tuple [.str (V ++ [33] ++ [] ++ [36] ++ T), .int IntKind.i64 0]) [])
   (.fail))
   (.fail))
   (.fail))
   (.fail))
   (.br (decide ((1 : Int) ≤ R ∧ R ≤ 200))
   (.br (decide ((V ++ [33] ++ []).length = V.length + 1 + ([] : List UInt8).length ∧ V.length + 1 + ([] : List UInt8).length + (T).length ≤ 1000000))
   (.br (decide (0 < (V ++ [33] ++ [] ++ T).length ∧ (V ++ [33] ++ [] ++ T).length = V.length + 1 + ([] : List UInt8).length + (T).length ∧ V.length + 1 + ([] : List UInt8).length + (T).length ≤ 1000000))
   (.ret (.tuple [.str (V ++ [33] ++ [] ++ T), .int IntKind.i64 0]) [])
   (.fail))
   (.fail))
   (.fail)))
   (.fail))))
   (.fail))
   (.fail))
   (.fail))
   (.fail))
   (.br (inI c)
   (.br (colB c)
   (.br (b)
   (.br (decide ([36].length = 1 ∧ 1 + (K).length ≤ 1000000))
   (.br (a)
   (.br (decide (([36] ++ K).length = 1 + (K).length ∧ 1 + (K).length + 1 ≤ 1000000))
   (.br (decide ((1 : Int) ≤ R ∧ R ≤ 200))
   (.br (decide (([36] ++ K ++ [36]).length = 1 + (K).length + 1 ∧ 1 + (K).length + 1 + (T).length ≤ 1000000))
   (.br (decide (0 < ([36] ++ K ++ [36] ++ T).length ∧ ([36] ++ K ++ [36] ++ T).length = 1 + (K).length + 1 + (T).length ∧ 1 + (K).length + 1 + (T).length ≤ 1000000))
   (.ret (.tuple [.str ([36] ++ K ++ [36] ++ T), .int IntKind.i64 0]) [])
   (.fail))
   (.fail))
   (.fail))
   (.fail))
   (.br (decide ((1 : Int) ≤ R ∧ R ≤ 200))
   (.br (decide (([36] ++ K).length = 1 + (K).length ∧ 1 + (K).length + (T).length ≤ 1000000))
   (.br (decide (0 < ([36] ++ K ++ T).length ∧ ([36] ++ K ++ T).length = 1 + (K).length + (T).length ∧ 1 + (K).length + (T).length ≤ 1000000))
   (.ret (.tuple [.str ([36] ++ K ++ T), .int IntKind.i64 0]) [])
   (.fail))
   (.fail))
   (.fail)))
   (.fail))
   (.br (decide (0 < (K).length ∧ (K).length ≤ 1000000))
   (.br (a)
   (.br (decide ((K).length = (K).length ∧ (K).length + 1 ≤ 1000000))
   (.br (decide ((1 : Int) ≤ R ∧ R ≤ 200))
   (.br (decide ((K ++ [36]).length = (K).length + 1 ∧ (K).length + 1 + (T).length ≤ 1000000))
   (.br (decide (0 < (K ++ [36] ++ T).length ∧ (K ++ [36] ++ T).length = (K).length + 1 + (T).length ∧ (K).length + 1 + (T).length ≤ 1000000))
   (.ret (.tuple [.str (K ++ [36] ++ T), .int IntKind.i64 0]) [])
   (.fail))
   (.fail))
   (.fail))
   (.fail))
   (.br (decide ((1 : Int) ≤ R ∧ R ≤ 200))
   (.br (decide ((K).length = (K).length ∧ (K).length + (T).length ≤ 1000000))
   (.br (decide (0 < (K ++ T).length ∧ (K ++ T).length = (K).length + (T).length ∧ (K).length + (T).length ≤ 1000000))
   (.ret (.tuple [.str (K ++ T), .int IntKind.i64 0]) [])
   (.fail))
   (.fail))
   (.fail)))
   (.fail)))
   (.br (b)
   (.br (a)
   (.br (decide ((1 : Int) ≤ R ∧ R ≤ 200))
   (.br (decide (([36] ++ [] ++ [36]).length = 1 + ([] : List UInt8).length + 1 ∧ 1 + ([] : List UInt8).length + 1 + (T).length ≤ 1000000))
   (.br (decide (0 < ([36] ++ [] ++ [36] ++ T).length ∧ ([36] ++ [] ++ [36] ++ T).length = 1 + ([] : List UInt8).length + 1 + (T).length ∧ 1 + ([] : List UInt8).length + 1 + (T).length ≤ 1000000))
   (.ret (.tuple [.str ([36] ++ [] ++ [36] ++ T), .int IntKind.i64 0]) [])
   (.fail))
   (.fail))
   (.fail))
   (.br (decide ((1 : Int) ≤ R ∧ R ≤ 200))
   (.br (decide (([36] ++ []).length = 1 + ([] : List UInt8).length ∧ 1 + ([] : List UInt8).length + (T).length ≤ 1000000))
   (.br (decide (0 < ([36] ++ [] ++ T).length ∧ ([36] ++ [] ++ T).length = 1 + ([] : List UInt8).length + (T).length ∧ 1 + ([] : List UInt8).length + (T).length ≤ 1000000))
   (.ret (.tuple [.str ([36] ++ [] ++ T), .int IntKind.i64 0]) [])
   (.fail))
   (.fail))
   (.fail)))
   (.fail)))
   (.fail))))
theorem txtT_comes (W : List UInt8 → List UInt8) (s : List UInt8) (r c : Int) (a b d : Bool) : Comes (tabT W) nolv 12 [.agg [.str s, .int .i64 r, .int .i64 c, .bool a, .bool b, .bool d]] []
    (txtT s r c a b d (W s) (colS c.toNat) (rowS (IntKind.i64.wrap (r + 1)).toNat) (IntKind.i64.wrap (r + 1))) := by unfold Comes; kernel_rfl
/-- A right reference as it is written. -/
def txtS (x : Rf) : List UInt8 := bcond x.d [35, 82, 69, 70, 33] (bcond (!(x.s == [])) (wriS x.s ++ [33]) [] ++ bcond x.b [36] [] ++ colS x.c.toNat ++ bcond x.a [36] [] ++ rowS (x.r + 1).toNat)
def eText : Ent := fun args pre => match args, pre with
  | [.agg [.str s, .int .i64 r, .int .i64 c, .bool a, .bool b, .bool d]], [] => .chk (decide (s.length ≤ 100000))
    (.ret (.tuple [.str (bcond (rightB ⟨s, r, c, a, b, d⟩) (txtS ⟨s, r, c, a, b, d⟩) []), .int .i64 (bcond (rightB ⟨s, r, c, a, b, d⟩) 0 20)]) [])
  | _, _ => .fail
theorem col_len (n : Nat) : 1 ≤ (colS n).length ∧ (colS n).length ≤ 2 := by unfold colS; split <;> simp
theorem row_len (n : Nat) : 1 ≤ (rowS n).length ∧ (rowS n).length ≤ 3 := by
  unfold rowS
  cases Nat.blt n 10 <;> cases Nat.blt n 100 <;> simp [bcond]
theorem wri_len {l : List UInt8} (h : l ≠ []) : 0 < (wriS l).length ∧ (wriS l).length ≤ 2 * l.length + 2 := by
  have := dbl_len l
  unfold wriS
  cases plainF l l.length 0 with
  | true => exact ⟨List.length_pos_iff.2 h, by simp only [bcond]; omega⟩
  | false => simp only [bcond, List.length_append, List.length_cons, List.length_nil]; omega
theorem text_ok : EntOK Tryd.prog 12 eText := fun args pre => by
  unfold eText
  split
  · rename_i s r c a b d
    refine of_run (ans_comes tabT_ok (txtT_comes wriS s r c a b d)) fun x h => ?_
    obtain ⟨h1, h⟩ := chk_run h
    have h1 := of_decide_eq_true h1
    rw [← h]
    unfold txtT
    simp only [Ans.run]
    cases hr : rightB ⟨s, r, c, a, b, d⟩ with
    | false => rfl
    | true =>
      cases hd : d with
      | true => rfl
      | false =>
        subst hd
        have k := right_bd hr rfl
        simp only at k
        have hR : IntKind.i64.wrap (r + 1) = r + 1 := i64_in (by omega) (by omega)
        have hI : inI c = true := inI_iff.2 (by omega)
        have hC : colB c = true := by unfold colB; exact decide_eq_true (by omega)
        have hk := col_len c.toNat
        have ht := row_len (r + 1).toNat
        rw [hR]
        simp only [txtS, hI, hC]
        have fin : ∀ {y z : List UInt8}, y = z → pure2 (.tuple [.str y, .int .i64 0]) [] = pure2 (.tuple [.str z, .int .i64 (bcond true 0 20)]) [] := fun e => by rw [e]; rfl
        cases hs : (!(s == [])) with
        | true =>
          have hw := wri_len (l := s) (fun e => by subst e; simp at hs)
          cases ha : a <;> cases hb : b <;>
          · repeat
              first
              | refine (bcT (b := true) rfl).trans ?_
              | refine (bcF (b := false) rfl).trans ?_
              | refine (bcF (b := !true) rfl).trans ?_
              | (refine (bcT (b := @decide _ _) (decide_eq_true ?_)).trans ?_
                 · first | omega | (simp only [true_and, List.length_append, List.length_cons, List.length_nil]; omega))
            exact fin (by simp [bcond])
        | false =>
          cases ha : a <;> cases hb : b <;>
          · repeat
              first
              | refine (bcT (b := true) rfl).trans ?_
              | refine (bcF (b := false) rfl).trans ?_
              | refine (bcF (b := !true) rfl).trans ?_
              | (refine (bcT (b := @decide _ _) (decide_eq_true ?_)).trans ?_
                 · first | omega | (simp only [true_and, List.length_append, List.length_cons, List.length_nil]; omega))
            exact fin (by simp [bcond])
  · trivial
end Go.Proofs.YtanhlbdcjonaoaaDoor
