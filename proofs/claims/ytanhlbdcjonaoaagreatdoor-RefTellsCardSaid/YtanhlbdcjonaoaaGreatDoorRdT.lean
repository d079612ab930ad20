/- Layer 2: rows as texts. -/
import Derived.Test.YtanhlbdcjonaoaaGreatDoorRdS
set_option linter.unusedVariables false
set_option linter.unusedSimpArgs false
namespace Go.Proofs.YtanhlbdcjonaoaaGreatDoor
open Go Sx

def rowS (n : Nat) : List UInt8 := bcond (Nat.blt n 10) [UInt8.ofNat (48 + n)] (bcond (Nat.blt n 100) [UInt8.ofNat (48 + n / 10), UInt8.ofNat (48 + n % 10)] [UInt8.ofNat (48 + n / 100), UInt8.ofNat (48 + n / 10 % 10), UInt8.ofNat (48 + n % 10)])
def itoaP (n : Nat) : Prop := ent (R := AV × List PObj) Tryz.prog tab0 nolv 64 18446744073709551616 30 46 [.int .i64 (n : Int)] [] pure2 = some (.str (rowS n), [])
theorem itoa_0 : (List.range 20).map (fun n : Nat => ent (R := AV × List PObj) Tryz.prog tab0 nolv 64 18446744073709551616 30 46 [.int .i64 ((1 + n : Nat) : Int)] [] pure2) = (List.range 20).map (fun n : Nat => some (.str (rowS (1 + n)), [])) := by kernel_rfl
theorem itoa_1 : (List.range 20).map (fun n : Nat => ent (R := AV × List PObj) Tryz.prog tab0 nolv 64 18446744073709551616 30 46 [.int .i64 ((21 + n : Nat) : Int)] [] pure2) = (List.range 20).map (fun n : Nat => some (.str (rowS (21 + n)), [])) := by kernel_rfl
theorem itoa_2 : (List.range 20).map (fun n : Nat => ent (R := AV × List PObj) Tryz.prog tab0 nolv 64 18446744073709551616 30 46 [.int .i64 ((41 + n : Nat) : Int)] [] pure2) = (List.range 20).map (fun n : Nat => some (.str (rowS (41 + n)), [])) := by kernel_rfl
theorem itoa_3 : (List.range 20).map (fun n : Nat => ent (R := AV × List PObj) Tryz.prog tab0 nolv 64 18446744073709551616 30 46 [.int .i64 ((61 + n : Nat) : Int)] [] pure2) = (List.range 20).map (fun n : Nat => some (.str (rowS (61 + n)), [])) := by kernel_rfl
theorem itoa_4 : (List.range 20).map (fun n : Nat => ent (R := AV × List PObj) Tryz.prog tab0 nolv 64 18446744073709551616 30 46 [.int .i64 ((81 + n : Nat) : Int)] [] pure2) = (List.range 20).map (fun n : Nat => some (.str (rowS (81 + n)), [])) := by kernel_rfl
theorem itoa_5 : (List.range 20).map (fun n : Nat => ent (R := AV × List PObj) Tryz.prog tab0 nolv 64 18446744073709551616 30 46 [.int .i64 ((101 + n : Nat) : Int)] [] pure2) = (List.range 20).map (fun n : Nat => some (.str (rowS (101 + n)), [])) := by kernel_rfl
theorem itoa_6 : (List.range 20).map (fun n : Nat => ent (R := AV × List PObj) Tryz.prog tab0 nolv 64 18446744073709551616 30 46 [.int .i64 ((121 + n : Nat) : Int)] [] pure2) = (List.range 20).map (fun n : Nat => some (.str (rowS (121 + n)), [])) := by kernel_rfl
theorem itoa_7 : (List.range 20).map (fun n : Nat => ent (R := AV × List PObj) Tryz.prog tab0 nolv 64 18446744073709551616 30 46 [.int .i64 ((141 + n : Nat) : Int)] [] pure2) = (List.range 20).map (fun n : Nat => some (.str (rowS (141 + n)), [])) := by kernel_rfl
theorem itoa_8 : (List.range 20).map (fun n : Nat => ent (R := AV × List PObj) Tryz.prog tab0 nolv 64 18446744073709551616 30 46 [.int .i64 ((161 + n : Nat) : Int)] [] pure2) = (List.range 20).map (fun n : Nat => some (.str (rowS (161 + n)), [])) := by kernel_rfl
theorem itoa_9 : (List.range 20).map (fun n : Nat => ent (R := AV × List PObj) Tryz.prog tab0 nolv 64 18446744073709551616 30 46 [.int .i64 ((181 + n : Nat) : Int)] [] pure2) = (List.range 20).map (fun n : Nat => some (.str (rowS (181 + n)), [])) := by kernel_rfl
theorem of_chunk {f g : Nat → Option (AV × List PObj)} (h : (List.range 20).map f = (List.range 20).map g) {n : Nat} (hn : n < 20) : f n = g n := by
  have := congrArg (fun l => l[n]?) h
  simpa [hn] using this
theorem itoa_all (n : Nat) (h1 : 1 ≤ n) (h2 : n ≤ 200) : itoaP n := by
  unfold itoaP
  obtain ⟨c, k, hk, hc, rfl⟩ : ∃ c k, k < 20 ∧ c < 10 ∧ n = 20 * c + 1 + k := ⟨(n - 1) / 20, (n - 1) % 20, Nat.mod_lt _ (by decide), by omega, by omega⟩
  match c, hc with
  | 0, _ => exact of_chunk itoa_0 hk
  | 1, _ => exact of_chunk itoa_1 hk
  | 2, _ => exact of_chunk itoa_2 hk
  | 3, _ => exact of_chunk itoa_3 hk
  | 4, _ => exact of_chunk itoa_4 hk
  | 5, _ => exact of_chunk itoa_5 hk
  | 6, _ => exact of_chunk itoa_6 hk
  | 7, _ => exact of_chunk itoa_7 hk
  | 8, _ => exact of_chunk itoa_8 hk
  | 9, _ => exact of_chunk itoa_9 hk
  | c + 10, hc => omega
def eItoa : Ent := fun args pre => match args, pre with
  | [.int .i64 n], [] => .chk (decide (1 ≤ n ∧ n ≤ 200)) (.ret (.str (rowS n.toNat)) [])
  | _, _ => .fail
theorem itoa_ok : EntOK Tryz.prog 46 eItoa := fun args pre => by
  unfold eItoa
  split
  · rename_i n
    refine ⟨fun hb => ?_, fun _ => trivial⟩
    have hn := of_decide_eq_true hb
    have := itoa_all n.toNat (by omega) (by omega)
    unfold itoaP at this
    rw [Int.toNat_of_nonneg (by omega)] at this
    exact meets_ent tab0_ok host this
  · trivial
end Go.Proofs.YtanhlbdcjonaoaaGreatDoor
