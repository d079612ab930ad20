/- Layer 26: calls that are handed in: rows, out of what is read of them. -/
import Derived.Test.YtoekeplljjaehaaGr06
import Derived.Test.YtoekeplljjaehaaSxYr
set_option linter.unusedVariables false
set_option linter.unusedSimpArgs false
namespace Go.Proofs.Ytoekeplljjaehaa
open Go Sx Go.ChangeShapes Go.WideShapes Go.ChangeAt Go.RowKit Go.Joins Go.Deep
theorem kids : Kids Try.prog (· < Try.prog.types.size) := kids_rows (by kernel_rfl) (by kernel_rfl)
theorem full : ∀ t e, t < Try.prog.types.size → Try.prog.underlying t = some (.slice e) → 0 < Try.prog.cellsOf e := slices_full_of Try.prog (by kernel_rfl)
/-- A row, as it stands in a world. -/
def rowW (w : World) (b off : Nat) : List CV :=
  [.mk (match w.cell? ⟨b, off, none⟩ with | some (.int _ n) => n | _ => 0) [] false [],
   .mk (match w.cell? ⟨b, off + 1, none⟩ with | some (.int _ n) => n | _ => 0) [] false [],
   .mk 0 (match w.cell? ⟨b, off + 2, none⟩ with | some (.string s) => s.data.toList | _ => []) false [], .mk 0 [] false []]
/-- How a row stands in a world. -/
def Stands (w : World) (b off : Nat) : Prop := ∃ (k a : Int) (s : ByteArray), w.cell? ⟨b, off, none⟩ = some (.int .u8 k) ∧ w.cell? ⟨b, off + 1, none⟩ = some (.int .i64 a) ∧ w.cell? ⟨b, off + 2, none⟩ = some (.string s) ∧ (Lit.int .i64 a).wf = true
theorem stands_at {w : World} {b off : Nat} (h : Stands w b off) (j : Nat) (v : Value) (hj : j < 4) (hv : cellV (shA.getD j .any) (rowCV (rowW w b off) j) = some v) : w.cell? ⟨b, off + j, none⟩ = some v := by
  obtain ⟨k, a, s, h0, h1, h2, _⟩ := h
  unfold rowW at hv
  rw [h0, h1, h2] at hv
  match j, hj with
  | 0, _ => rw [Nat.add_zero, h0]; exact hv
  | 1, _ => rw [h1]; exact hv
  | 2, _ =>
    rw [h2]
    have hv : some (Value.string ⟨s.data.toList.toArray⟩) = some v := hv
    rw [← hv]
  | 3, _ => cases hv
theorem stands_i64 {w : World} {b off : Nat} (h : Stands w b off) : i64B (atC (rowW w b off)) = true := by
  obtain ⟨k, a, s, h0, h1, h2, wa⟩ := h
  unfold rowW atC rowCV
  rw [h1]
  exact i64B_to (wf_i64 wa)
section
variable {H : Type} {enc : TypeId × Value → H}
theorem open_act {w : World} {base : Nat} {spare : Nat → Bool} {held : Bool} {n : Nat} {cs : List Value} {x : DataW H × List MemPlace} {b off : Nat} (hc : w.cells? base ⟨b, off, none⟩ 4 = some cs) (h : DataW.trod enc Try.prog w base spare held n 31 cs = some x) : Stands w b off := by
  obtain ⟨xs, m, rfl, _, hl, hx, hf⟩ := DataW.trod_struct Try.underlying31 h
  obtain ⟨_, hlen, hcell⟩ := World.cells?_some hc
  match cs, hlen with
  | [c0, c1, c2, c3], _ =>
    have e0 := hf 0 _ rfl
    have e1 := hf 1 _ rfl
    have e2 := hf 2 _ rfl
    have k0 := hcell 0 (by omega)
    have k1 := hcell 1 (by omega)
    have k2 := hcell 2 (by omega)
    rw [add_plain] at k0 k1 k2
    have c5 : Try.prog.cellsOf 5 = 1 := by kernel_rfl
    have c3' : Try.prog.cellsOf 3 = 1 := by kernel_rfl
    have c9 : Try.prog.cellsOf 9 = 1 := by kernel_rfl
    have hx : xs.length = 4 := hx
    rw [List.getElem?_eq_getElem (by omega)] at e0 e1 e2
    obtain ⟨k, q0, _, _⟩ := DataW.trod_int (k := .u8) Try.underlying5 e0
    obtain ⟨a, q1, _, wa⟩ := DataW.trod_int (k := .i64) Try.underlying3 e1
    obtain ⟨s, q2, _, _⟩ := DataW.trod_string Try.underlying9 e2
    have q0 : List.take (Try.prog.cellsOf 5) (List.drop 0 [c0, c1, c2, c3]) = [.int .u8 k] := q0
    have q1 : List.take (Try.prog.cellsOf 3) (List.drop 1 [c0, c1, c2, c3]) = [.int .i64 a] := q1
    have q2 : List.take (Try.prog.cellsOf 9) (List.drop 2 [c0, c1, c2, c3]) = [.string s] := q2
    rw [c5] at q0
    rw [c3'] at q1
    rw [c9] at q2
    cases q0
    cases q1
    cases q2
    exact ⟨k, a, s, k0, k1, k2, wa⟩
theorem shape_lt {w : World} {b : Nat} {x : TypeId × Nat} (h : w.shape? b = some x) : b < w.heap.size := by
  unfold World.shape? at h
  split at h
  · rename_i he; exact (Array.getElem?_eq_some_iff.1 he).1
  · cases h
/-- The calls that are handed in. -/
theorem open_acts {w : World} {base b0 : Nat} {spare : Nat → Bool} {held : Bool} {v : Value} {d : DataW H} {p : List MemPlace} (hv : Value.okWide Try.prog w .any b0 22 v) (h : DataW.Trod enc Try.prog w base spare held 22 v d p) :
    ∃ (rows : List (List CV)) (l b : Nat) (c : Cap), (∀ (E : Env) (nm : Nat), E nm = some (b, c) → den E (.dsl nm l) = some v) ∧ okA l rows = true ∧ ∀ E, ObjR E w b c (.flatR false shA rows) := by
  obtain ⟨n, h⟩ := h
  obtain ⟨a, len, cap, rfl⟩ := okWide_slice Try.underlying22 hv
  rcases open_slice Try.underlying22 h with ⟨hc, _⟩ | ⟨a', len', cap', m, n', D, Pl, hc, hb, hl, hm, hmm, _, hx⟩
  · simp [Value.cells] at hc
    obtain ⟨rfl, rfl, rfl⟩ := hc
    exact ⟨[], 0, 0, ⟨0, 0, true⟩, fun E nm hE => by simp [den, hE], rfl, fun E => ⟨fun _ => rfl, fun e => by cases e⟩⟩
  · simp [Value.cells] at hc
    obtain ⟨rfl, rfl, rfl⟩ := hc
    have hok : Cell.ok Try.prog w .any b0 22 (.slice (some a') len cap) := by
      simpa only [Value.okWide, Cell.okWide, Try.underlying22] using hv
    simp only [Cell.ok, Try.underlying22] at hok
    obtain ⟨_, _, _, hsp, row, cells, hsh, _⟩ := hok
    obtain ⟨b, off, sp⟩ := a'
    have hsp : sp = none := hsp
    subst hsp
    have c31 : Try.prog.cellsOf 31 = 4 := by kernel_rfl
    have st : ∀ i, i < len → Stands w b (off + i * 4) := fun i hi => by
      obtain ⟨cs', h1, h2⟩ := hx i (by rw [hmm]; split <;> omega)
      rw [c31, add_plain] at h1
      exact open_act h1 h2
    have hrow : ∀ i, i < len → Sx.rowAt ((List.range len).map fun i => rowW w b (off + i * 4)) i = rowW w b (off + i * 4) := fun i hi => by
      unfold Sx.rowAt
      rw [List.getD_eq_getElem?_getD, List.getElem?_map, List.getElem?_range hi]; rfl
    refine ⟨(List.range len).map fun i => rowW w b (off + i * 4), len, b, ⟨cap, off, false⟩, fun E nm hE => ?_, ?_, fun E => ⟨fun e => by (cases e), fun _ => ⟨shape_lt hsh, fun i j v hi hj hv => ?_⟩⟩⟩
    · simp [den, hE, hl]
    · unfold okA
      rw [Bool.and_eq_true, beqT]
      refine ⟨by simp, List.all_eq_true.2 fun r hr => ?_⟩
      obtain ⟨i, hi, rfl⟩ := List.mem_map.1 hr
      exact stands_i64 (st i (List.mem_range.1 hi))
    · have hi : i < len := by simpa using hi
      rw [hrow i hi] at hv
      rw [show off + (i * shA.length + j) = off + i * 4 + j by show off + (i * 4 + j) = _; omega]
      exact stands_at (st i hi) j v hj hv
end
end Go.Proofs.Ytoekeplljjaehaa

/- Layer 26: numbers that are handed in, out of what is read of them. -/
set_option linter.unusedVariables false
set_option linter.unusedSimpArgs false
namespace Go.Proofs.Ytoekeplljjaehaa
open Go Sx Go.ChangeShapes Go.WideShapes Go.ChangeAt Go.RowKit Go.Joins Go.Deep
theorem denC_ints (E : Env) (l : List Int) : denC E (ints .i64 l) (l.map (Value.int .i64)) := ⟨denL_ints l, by unfold allOne; rw [List.all_map]; exact List.all_eq_true.2 fun x _ => rfl⟩
section
variable {H : Type} {enc : TypeId × Value → H}
theorem open_ks {w : World} {base b0 : Nat} {spare : Nat → Bool} {held : Bool} {v : Value} {d : DataW H} {p : List MemPlace} (hv : Value.okWide Try.prog w .any b0 29 v) (h : DataW.Trod enc Try.prog w base spare held 29 v d p) :
    ∃ (ks : List Int) (l b : Nat) (c : Cap), (∀ (E : Env) (nm : Nat), E nm = some (b, c) → den E (.dsl nm l) = some v) ∧ ks.length = l ∧ ks.all i64B = true ∧ ∀ E, ObjR E w b c (.flat false (ints .i64 ks)) := by
  obtain ⟨n, h⟩ := h
  obtain ⟨a, len, cap, rfl⟩ := okWide_slice Try.underlying29 hv
  rcases open_ints Try.underlying29 Try.underlying3 (by kernel_rfl) h with ⟨hc, _⟩ | ⟨a', len', cap', zs, hc, hb, hl, hm, hz, _, hcell, hwf⟩
  · simp [Value.cells] at hc
    obtain ⟨rfl, rfl, rfl⟩ := hc
    exact ⟨[], 0, 0, ⟨0, 0, true⟩, fun E nm hE => by simp [den, hE], rfl, rfl, fun E => ⟨[], denC_ints E [], fun _ => rfl, fun e => by cases e⟩⟩
  · simp [Value.cells] at hc
    obtain ⟨rfl, rfl, rfl⟩ := hc
    have hok : Cell.ok Try.prog w .any b0 29 (.slice (some a') len cap) := by
      simpa only [Value.okWide, Cell.okWide, Try.underlying29] using hv
    simp only [Cell.ok, Try.underlying29] at hok
    obtain ⟨_, _, _, hsp, row, cells, hsh, _⟩ := hok
    obtain ⟨b, off, sp⟩ := a'
    have hsp : sp = none := hsp
    subst hsp
    have hlen : len ≤ zs.length := by rw [hz]; split <;> omega
    refine ⟨zs.take len, len, b, ⟨cap, off, false⟩, fun E nm hE => ?_, by rw [List.length_take]; omega, List.all_eq_true.2 fun x hx => i64B_to (wf_i64 (hwf x (List.mem_of_mem_take hx))), fun E => ⟨_, denC_ints E _, fun e => by (cases e), fun _ => ⟨shape_lt hsh, fun i x hi => ?_⟩⟩⟩
    · simp [den, hE, hl]
    · rw [List.getElem?_map, List.getElem?_take] at hi
      split at hi
      · rename_i h1
        have h2 : i < zs.length := by omega
        rw [List.getElem?_eq_getElem h2] at hi
        simp only [Option.map_some, Option.some.injEq] at hi
        have := hcell i h2
        rw [add_plain, List.getD_eq_getElem?_getD, List.getElem?_eq_getElem h2] at this
        rw [this, ← hi]; rfl
      · cases hi
end
end Go.Proofs.Ytoekeplljjaehaa

/- Layer 26: five texts that are handed in. -/
set_option linter.unusedVariables false
set_option linter.unusedSimpArgs false
namespace Go.Proofs.Ytoekeplljjaehaa
open Go Sx Go.ChangeShapes Go.WideShapes Go.ChangeAt Go.RowKit Go.Joins Go.Deep
section
variable {H : Type} {enc : TypeId × Value → H}
theorem open_five {w : World} {base b0 : Nat} {spare : Nat → Bool} {held : Bool} {v : Value} {d : DataW H} {p : List MemPlace} (hv : Value.okWide Try.prog w .any b0 53 v) (h : DataW.Trod enc Try.prog w base spare held 53 v d p) :
    ∃ s0 s1 s2 s3 s4 : ByteArray, v = .agg #[.string s0, .string s1, .string s2, .string s3, .string s4] := by
  obtain ⟨n, h⟩ := h
  simp only [Value.okWide, Try.underlying53] at hv
  obtain ⟨cs, rfl, hsz, _⟩ := hv
  have h' : DataW.trod enc Try.prog w base spare held n 53 cs.toList = some (d, p) := h
  obtain ⟨xs, m, _, _, hl, hx, hf⟩ := DataW.trod_array Try.underlying53 h'
  have c9 : Try.prog.cellsOf 9 = 1 := by kernel_rfl
  have c53 : Try.prog.cellsOf 53 = 5 := by kernel_rfl
  rw [c53] at hl
  match hcs : cs.toList, hl with
  | [a0, a1, a2, a3, a4], _ =>
    have hcs' : cs = #[a0, a1, a2, a3, a4] := by rw [← Array.toArray_toList (xs := cs), hcs]
    subst hcs'
    have one : ∀ (i : Nat) (hi : i < 5) (a : Value), List.take (Try.prog.cellsOf 9) (List.drop (i * Try.prog.cellsOf 9) [a0, a1, a2, a3, a4]) = [a] → ∃ s : ByteArray, a = .string s := fun i hi a ha => by
      have e := hf i hi
      rw [List.getElem?_eq_getElem (by omega)] at e
      obtain ⟨s, q, _, _⟩ := DataW.trod_string Try.underlying9 e
      have q : List.take (Try.prog.cellsOf 9) (List.drop (i * Try.prog.cellsOf 9) [a0, a1, a2, a3, a4]) = [.string s] := q
      rw [ha] at q
      exact ⟨s, by simpa using q⟩
    obtain ⟨s0, rfl⟩ := one 0 (by omega) a0 (by rw [c9]; rfl)
    obtain ⟨s1, rfl⟩ := one 1 (by omega) a1 (by rw [c9]; rfl)
    obtain ⟨s2, rfl⟩ := one 2 (by omega) a2 (by rw [c9]; rfl)
    obtain ⟨s3, rfl⟩ := one 3 (by omega) a3 (by rw [c9]; rfl)
    obtain ⟨s4, rfl⟩ := one 4 (by omega) a4 (by rw [c9]; rfl)
    exact ⟨s0, s1, s2, s3, s4, rfl⟩
end
end Go.Proofs.Ytoekeplljjaehaa
