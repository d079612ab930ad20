/- Layer 2: the first sign of a text, by the document's own answer: the runs, by the first byte. -/
import Derived.Test.YtanhlbdcjonaoaaGreatDoorGr07
set_option linter.unusedVariables false
set_option linter.unusedSimpArgs false
namespace Go.Proofs.YtanhlbdcjonaoaaGreatDoor
open Go Sx

theorem sr0 (t : List UInt8) : ((List.range 194).map (· + 0)).map (fun b : Nat => ent (R := AV × List PObj) Tryz.prog tab1 nolv 64 18446744073709551616 30 55 [.str (UInt8.ofNat b :: t)] [] pure2) = ((List.range 194).map (· + 0)).map (fun b : Nat => (signAns b (UInt8.ofNat b :: t)).run pure2) := by kernel_rfl
theorem sr1 (t : List UInt8) : ((List.range 10).map (· + 194)).map (fun b : Nat => ent (R := AV × List PObj) Tryz.prog tab1 nolv 64 18446744073709551616 30 55 [.str (UInt8.ofNat b :: t)] [] pure2) = ((List.range 10).map (· + 194)).map (fun b : Nat => (signAns b (UInt8.ofNat b :: t)).run pure2) := by kernel_rfl
theorem sr2 (t : List UInt8) : ((List.range 10).map (· + 204)).map (fun b : Nat => ent (R := AV × List PObj) Tryz.prog tab1 nolv 64 18446744073709551616 30 55 [.str (UInt8.ofNat b :: t)] [] pure2) = ((List.range 10).map (· + 204)).map (fun b : Nat => (signAns b (UInt8.ofNat b :: t)).run pure2) := by kernel_rfl
theorem sr3 (t : List UInt8) : ((List.range 10).map (· + 214)).map (fun b : Nat => ent (R := AV × List PObj) Tryz.prog tab1 nolv 64 18446744073709551616 30 55 [.str (UInt8.ofNat b :: t)] [] pure2) = ((List.range 10).map (· + 214)).map (fun b : Nat => (signAns b (UInt8.ofNat b :: t)).run pure2) := by kernel_rfl
theorem sr4 (t : List UInt8) : ((List.range 8).map (· + 224)).map (fun b : Nat => ent (R := AV × List PObj) Tryz.prog tab1 nolv 64 18446744073709551616 30 55 [.str (UInt8.ofNat b :: t)] [] pure2) = ((List.range 8).map (· + 224)).map (fun b : Nat => (signAns b (UInt8.ofNat b :: t)).run pure2) := by kernel_rfl
theorem sr5 (t : List UInt8) : ((List.range 8).map (· + 232)).map (fun b : Nat => ent (R := AV × List PObj) Tryz.prog tab1 nolv 64 18446744073709551616 30 55 [.str (UInt8.ofNat b :: t)] [] pure2) = ((List.range 8).map (· + 232)).map (fun b : Nat => (signAns b (UInt8.ofNat b :: t)).run pure2) := by kernel_rfl
theorem sr6 (t : List UInt8) : ((List.range 8).map (· + 240)).map (fun b : Nat => ent (R := AV × List PObj) Tryz.prog tab1 nolv 64 18446744073709551616 30 55 [.str (UInt8.ofNat b :: t)] [] pure2) = ((List.range 8).map (· + 240)).map (fun b : Nat => (signAns b (UInt8.ofNat b :: t)).run pure2) := by kernel_rfl
theorem sr7 (t : List UInt8) : ((List.range 8).map (· + 248)).map (fun b : Nat => ent (R := AV × List PObj) Tryz.prog tab1 nolv 64 18446744073709551616 30 55 [.str (UInt8.ofNat b :: t)] [] pure2) = ((List.range 8).map (· + 248)).map (fun b : Nat => (signAns b (UInt8.ofNat b :: t)).run pure2) := by kernel_rfl

theorem chunk {α : Type} {f g : Nat → α} {n k : Nat} (h : ((List.range n).map (· + k)).map f = ((List.range n).map (· + k)).map g) {b : Nat} (h1 : k ≤ b) (h2 : b < k + n) : f b = g b := by
  have := congrArg (·[b - k]?) h
  simp only [List.getElem?_map, List.getElem?_range (show b - k < n by omega), Option.map_some] at this
  rw [show b - k + k = b by omega] at this
  exact Option.some.inj this
theorem sign_run (t : List UInt8) (b : Nat) (hb : b < 256) : ent (R := AV × List PObj) Tryz.prog tab1 nolv 64 18446744073709551616 30 55 [.str (UInt8.ofNat b :: t)] [] pure2 = (signAns b (UInt8.ofNat b :: t)).run pure2 := by
  by_cases c0 : b < 194
  · exact chunk (sr0 t) (by omega) (by omega)
  by_cases c1 : b < 204
  · exact chunk (sr1 t) (by omega) (by omega)
  by_cases c2 : b < 214
  · exact chunk (sr2 t) (by omega) (by omega)
  by_cases c3 : b < 224
  · exact chunk (sr3 t) (by omega) (by omega)
  by_cases c4 : b < 232
  · exact chunk (sr4 t) (by omega) (by omega)
  by_cases c5 : b < 240
  · exact chunk (sr5 t) (by omega) (by omega)
  by_cases c6 : b < 248
  · exact chunk (sr6 t) (by omega) (by omega)
  exact chunk (sr7 t) (by omega) (by omega)

end Go.Proofs.YtanhlbdcjonaoaaGreatDoor
