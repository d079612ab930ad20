/- Layer 2: columns. -/
import Derived.Test.YtanhlbdcjonaoaaGreatDoorGr07
set_option linter.unusedVariables false
set_option linter.unusedSimpArgs false
namespace Go.Proofs.YtanhlbdcjonaoaaGreatDoor
open Go Sx

/-- The letters of a column. -/
def colS (n : Nat) : List UInt8 := if n < 26 then [UInt8.ofNat (65 + n)] else [UInt8.ofNat (64 + n / 26), UInt8.ofNat (65 + n % 26)]
def colB (n : Int) : Bool := decide (0 ≤ n ∧ n < 52)
def eColumn : Ent := fun args pre => match args, pre with
  | [.int .i64 n], [] => .chk (inI n) (.br (colB n) (.ret (.tuple [.str (colS n.toNat), .int .i64 0]) []) (.ret (.tuple [.str [], .int .i64 20]) []))
  | _, _ => .fail
theorem column_runs : (List.range 52).map (fun n : Nat => ent (R := AV × List PObj) Tryz.prog tab1 nolv 64 18446744073709551616 30 13 [.int .i64 (n : Int)] [] pure2) = (List.range 52).map (fun n => some (.tuple [.str (colS n), .int .i64 0], [])) := by kernel_rfl
theorem column_ok : EntOK Tryz.prog 13 eColumn := fun args pre => by
  unfold eColumn
  split
  · rename_i n
    refine ⟨fun hi => ⟨fun hb => ?_, fun hb => ?_⟩, fun _ => trivial⟩
    · simp only [colB, decide_eq_true_eq] at hb
      obtain ⟨k, rfl⟩ : ∃ k : Nat, n = k := ⟨n.toNat, by omega⟩
      have := congrArg (·[k]?) column_runs
      simp only [List.getElem?_map, List.getElem?_range (show k < 52 by omega), Option.map_some] at this
      exact meets_ent tab1_ok host (Option.some.inj this)
    · simp only [colB, decide_eq_false_iff_not] at hb
      have e : Comes tab1 nolv 13 [.int .i64 n] [] (.br (decide (n < 0)) (.ret (.tuple [.str [], .int .i64 20]) []) (.br (decide (n ≥ 52)) (.ret (.tuple [.str [], .int .i64 20]) [])
        (.br (decide (n < 26)) (.ret (.tuple [.str (encL (IntKind.i32.wrap (IntKind.i64.wrap (65 + n.tmod 26)))), .int .i64 0]) [])
          (.br (decide ((encL (IntKind.i32.wrap (IntKind.i64.wrap (IntKind.i64.wrap (65 + IntKind.i64.wrap (n.tdiv 26)) - 1)))).length + (encL (IntKind.i32.wrap (IntKind.i64.wrap (65 + n.tmod 26)))).length ≤ 9223372036854775807))
            (.ret (.tuple [.str (encL (IntKind.i32.wrap (IntKind.i64.wrap (IntKind.i64.wrap (65 + IntKind.i64.wrap (n.tdiv 26)) - 1))) ++ encL (IntKind.i32.wrap (IntKind.i64.wrap (65 + n.tmod 26)))), .int .i64 0]) []) .fail)))) := by unfold Comes; kernel_rfl
      obtain ⟨h1, h2⟩ := ans_comes tab1_ok e
      by_cases c : n < 0
      · exact h1 (by simpa using c)
      · exact (h2 (by simpa using c)).1 (by simpa using (by omega : n ≥ 52))
  · trivial

/-- The column of some letters. -/
def colL : List (List UInt8) := (List.range 52).map colS
def colN (l : List UInt8) : Nat := colL.findIdx (· == l)
def isColB (l : List UInt8) : Bool := colL.any (· == l)
def eReadColumn : Ent := fun args pre => match args, pre with
  | [.str l], [] => .chk (isColB l) (.ret (.tuple [.int .i64 (colN l : Int), .int .i64 0]) [])
  | _, _ => .fail
theorem readColumn_runs : (List.range 52).map (fun n : Nat => ent (R := AV × List PObj) Tryz.prog tab1 nolv 64 18446744073709551616 30 11 [.str (colS n)] [] pure2) = (List.range 52).map (fun n => some (.tuple [.int .i64 (colN (colS n) : Int), .int .i64 0], [])) := by kernel_rfl
theorem readColumn_ok : EntOK Tryz.prog 11 eReadColumn := fun args pre => by
  unfold eReadColumn
  split
  · rename_i l
    refine ⟨fun hi => ?_, fun _ => trivial⟩
    simp only [isColB, colL, List.any_map, List.any_eq_true, List.mem_range, Function.comp, beq_iff_eq] at hi
    obtain ⟨k, hk, rfl⟩ := hi
    have := congrArg (·[k]?) readColumn_runs
    simp only [List.getElem?_map, List.getElem?_range hk, Option.map_some] at this
    exact meets_ent tab1_ok host (Option.some.inj this)
  · trivial

def tab3 : Tab := (13, eColumn) :: (11, eReadColumn) :: tab1
theorem tab3_ok : TabOK Tryz.prog tab3 := .cons column_ok (.cons readColumn_ok tab1_ok)

end Go.Proofs.YtanhlbdcjonaoaaGreatDoor
