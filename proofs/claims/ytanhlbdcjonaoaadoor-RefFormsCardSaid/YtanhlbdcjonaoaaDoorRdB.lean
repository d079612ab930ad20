/- Layer 2: sheets' names, by the program; the first sign of a text, by the document's own answer. -/
import Derived.Test.YtanhlbdcjonaoaaDoorRdA
set_option linter.unusedVariables false
set_option linter.unusedSimpArgs false
namespace Go.Proofs.YtanhlbdcjonaoaaDoor
open Go Sx

def tab5 : Tab := (56, eIsText) :: tab4
theorem tab5_ok : TabOK Tryd.prog tab5 := .cons isText_ok tab4_ok
/-- May a text be a sheet's name? -/
def sheetB (l : List UInt8) : Bool := !(l == []) && decide (l.length ≤ 30) && textB l
def eIsSheetP : Ent := fun args pre => match args, pre with
  | [.str l], [] => .ret (.bool (sheetB l)) []
  | _, _ => .fail
theorem isSheetP_ok : EntOK Tryd.prog 40 eIsSheetP := fun args pre => by
  unfold eIsSheetP
  split
  · rename_i l
    have e : Comes tab5 nolv 40 [.str l] [] (.br (!(l == [])) (.br (decide ((l.length : Int) ≤ 30)) (.chk (decide (l.length ≤ 9223372036854775807)) (.ret (.bool (textB l)) [])) (.ret (.bool false) [])) (.ret (.bool false) [])) := by unfold Comes; kernel_rfl
    refine of_run (ans_comes tab5_ok e) fun r h => ?_
    rw [← h]
    simp only [Ans.run, Ans.chk, sheetB]
    cases h1 : !(l == [])
    · rfl
    · by_cases h2 : l.length ≤ 30
      · rw [bcT rfl, bcT (by simpa using (by omega : (l.length : Int) ≤ 30)), bcT (by simpa using (by omega : l.length ≤ 9223372036854775807))]
        simp [h2]
      · rw [bcT rfl, bcF (by simpa using (by omega : ¬ (l.length : Int) ≤ 30))]
        simp [h2]
  · trivial

def sizeN (b : Nat) : Nat := if b < 194 then 0 else if b < 224 then 2 else if b < 240 then 3 else if b < 245 then 4 else 0
def loN (b : Nat) : Nat := if b = 224 then 160 else if b = 240 then 144 else 128
def hiN (b : Nat) : Nat := if b = 237 then 159 else if b = 244 then 143 else 191
def no0 : Ans := .ret (.int .i64 0) []
def signAns (b : Nat) (l : List UInt8) : Ans :=
  if b < 128 then .ret (.int .i64 1) [] else
  if sizeN b = 0 then no0 else
  .br (decide ((l.length : Int) < (sizeN b : Int))) no0
    (.chk (decide (0 ≤ (1 : Int) ∧ Int.toNat 1 < l.length)) (.br (decide (IntKind.i64.wrap (byteAt l (Int.toNat 1)) < (loN b : Int))) no0
      (.chk (decide (0 ≤ (1 : Int) ∧ Int.toNat 1 < l.length)) (.br (decide (IntKind.i64.wrap (byteAt l (Int.toNat 1)) > (hiN b : Int))) no0
        (if sizeN b = 2 then .ret (.int .i64 2) [] else
          .chk (decide (0 ≤ (2 : Int) ∧ Int.toNat 2 < l.length)) (.br (decide (byteAt l (Int.toNat 2) < 128)) no0
            (.chk (decide (0 ≤ (2 : Int) ∧ Int.toNat 2 < l.length)) (.br (decide (byteAt l (Int.toNat 2) > 191)) no0
              (if sizeN b = 3 then .ret (.int .i64 3) [] else
                .chk (decide (0 ≤ IntKind.i64.wrap (2 + 1) ∧ (IntKind.i64.wrap (2 + 1)).toNat < l.length)) (.br (decide (byteAt l (IntKind.i64.wrap (2 + 1)).toNat < 128)) no0
                  (.chk (decide (0 ≤ IntKind.i64.wrap (2 + 1) ∧ (IntKind.i64.wrap (2 + 1)).toNat < l.length)) (.br (decide (byteAt l (IntKind.i64.wrap (2 + 1)).toNat > 191)) no0
                    (.ret (.int .i64 4) [])))))))))))))

end Go.Proofs.YtanhlbdcjonaoaaDoor
