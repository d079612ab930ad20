/- Layer 26: calls that are handed in: rows, out of what is read of them. -/
import Derived.Test.YtoekeplljjaehaaGr07
import Derived.Test.YtoekeplljjaehaaSxYr
import Derived.Test.YtoekeplljjaehaaGr08
set_option linter.unusedVariables false
set_option linter.unusedSimpArgs false
namespace Go.Proofs.Ytoekeplljjaehaa
open Go Sx Go.ChangeShapes Go.WideShapes Go.ChangeAt Go.RowKit Go.Joins Go.Deep
theorem kids : Kids Try.prog (· < Try.prog.types.size) := kids_rows (by kernel_rfl) (by kernel_rfl)
theorem full : ∀ t e, t < Try.prog.types.size → Try.prog.underlying t = some (.slice e) → 0 < Try.prog.cellsOf e := slices_full_of Try.prog (by kernel_rfl)
/-- A row, as it stands in a world. -/
def rowW (w : World) (b off : Nat) : List CV :=
  [.mk (match w.cell? ⟨b, off, none⟩ with | some (.int _ n) => n | _ => 0) [] false [],
   .mk (match w.cell? ⟨b, off + 1, none⟩ with | some (.int _ n) => n | _ => 0) [] false [],
   .mk 0 (match w.cell? ⟨b, off + 2, none⟩ with | some (.string s) => s.data.toList | _ => []) false [], .mk 0 [] false []]
/-- How a row stands in a world. -/
def Stands (w : World) (b off : Nat) : Prop := ∃ (k a : Int) (s : ByteArray), w.cell? ⟨b, off, none⟩ = some (.int .u8 k) ∧ w.cell? ⟨b, off + 1, none⟩ = some (.int .i64 a) ∧ w.cell? ⟨b, off + 2, none⟩ = some (.string s) ∧ (Lit.int .i64 a).wf = true
theorem stands_at {w : World} {b off : Nat} (h : Stands w b off) (j : Nat) (v : Value) (hj : j < 4) (hv : cellV (shA.getD j .any) (rowCV (rowW w b off) j) = some v) : w.cell? ⟨b, off + j, none⟩ = some v := by
  obtain ⟨k, a, s, h0, h1, h2, _⟩ := h
  unfold rowW at hv
  rw [h0, h1, h2] at hv
  match j, hj with
  | 0, _ => rw [Nat.add_zero, h0]; exact hv
  | 1, _ => rw [h1]; exact hv
  | 2, _ =>
    rw [h2]
    have hv : some (Value.string ⟨s.data.toList.toArray⟩) = some v := hv
    rw [← hv]
  | 3, _ => cases hv
theorem stands_i64 {w : World} {b off : Nat} (h : Stands w b off) : i64B (atC (rowW w b off)) = true := by
  obtain ⟨k, a, s, h0, h1, h2, wa⟩ := h
  unfold rowW atC rowCV
  rw [h1]
  exact i64B_to (wf_i64 wa)
section
variable {H : Type} {enc : TypeId × Value → H}
theorem open_act {w : World} {base : Nat} {spare : Nat → Bool} {held : Bool} {n : Nat} {cs : List Value} {x : DataW H × List MemPlace} {b off : Nat} (hc : w.cells? base ⟨b, off, none⟩ 4 = some cs) (h : DataW.trod enc Try.prog w base spare held n 31 cs = some x) : Stands w b off := by
  obtain ⟨xs, m, rfl, _, hl, hx, hf⟩ := DataW.trod_struct Try.underlying31 h
  obtain ⟨_, hlen, hcell⟩ := World.cells?_some hc
  match cs, hlen with
  | [c0, c1, c2, c3], _ =>
    have e0 := hf 0 _ rfl
    have e1 := hf 1 _ rfl
    have e2 := hf 2 _ rfl
    have k0 := hcell 0 (by omega)
    have k1 := hcell 1 (by omega)
    have k2 := hcell 2 (by omega)
    rw [add_plain] at k0 k1 k2
    have c5 : Try.prog.cellsOf 5 = 1 := by kernel_rfl
    have c3' : Try.prog.cellsOf 3 = 1 := by kernel_rfl
    have c9 : Try.prog.cellsOf 9 = 1 := by kernel_rfl
    have hx : xs.length = 4 := hx
    rw [List.getElem?_eq_getElem (by omega)] at e0 e1 e2
    obtain ⟨k, q0, _, _⟩ := DataW.trod_int (k := .u8) Try.underlying5 e0
    obtain ⟨a, q1, _, wa⟩ := DataW.trod_int (k := .i64) Try.underlying3 e1
    obtain ⟨s, q2, _, _⟩ := DataW.trod_string Try.underlying9 e2
    have q0 : List.take (Try.prog.cellsOf 5) (List.drop 0 [c0, c1, c2, c3]) = [.int .u8 k] := q0
    have q1 : List.take (Try.prog.cellsOf 3) (List.drop 1 [c0, c1, c2, c3]) = [.int .i64 a] := q1
    have q2 : List.take (Try.prog.cellsOf 9) (List.drop 2 [c0, c1, c2, c3]) = [.string s] := q2
    rw [c5] at q0
    rw [c3'] at q1
    rw [c9] at q2
    cases q0
    cases q1
    cases q2
    exact ⟨k, a, s, k0, k1, k2, wa⟩
theorem shape_lt {w : World} {b : Nat} {x : TypeId × Nat} (h : w.shape? b = some x) : b < w.heap.size := by
  unfold World.shape? at h
  split at h
  · rename_i he; exact (Array.getElem?_eq_some_iff.1 he).1
  · cases h
/-- The calls that are handed in. -/
theorem open_acts {w : World} {base b0 : Nat} {spare : Nat → Bool} {held : Bool} {v : Value} {d : DataW H} {p : List MemPlace} (hv : Value.okWide Try.prog w .any b0 22 v) (h : DataW.Trod enc Try.prog w base spare held 22 v d p) :
    ∃ (rows : List (List CV)) (l b : Nat) (c : Cap), (∀ (E : Env) (nm : Nat), E nm = some (b, c) → den E (.dsl nm l) = some v) ∧ okA l rows = true ∧ ∀ E, ObjR E w b c (.flatR false shA rows) := by
  obtain ⟨n, h⟩ := h
  obtain ⟨a, len, cap, rfl⟩ := okWide_slice Try.underlying22 hv
  rcases open_slice Try.underlying22 h with ⟨hc, _⟩ | ⟨a', len', cap', m, n', D, Pl, hc, hb, hl, hm, hmm, _, hx⟩
  · simp [Value.cells] at hc
    obtain ⟨rfl, rfl, rfl⟩ := hc
    exact ⟨[], 0, 0, { n := 0, z := true }, fun E nm hE => by simp [den, hE], rfl, fun E => ⟨fun _ => rfl, fun e => by cases e⟩⟩
  · simp [Value.cells] at hc
    obtain ⟨rfl, rfl, rfl⟩ := hc
    have hok : Cell.ok Try.prog w .any b0 22 (.slice (some a') len cap) := by
      simpa only [Value.okWide, Cell.okWide, Try.underlying22] using hv
    simp only [Cell.ok, Try.underlying22] at hok
    obtain ⟨_, _, _, hsp, row, cells, hsh, _⟩ := hok
    obtain ⟨b, off, sp⟩ := a'
    have hsp : sp = none := hsp
    subst hsp
    have c31 : Try.prog.cellsOf 31 = 4 := by kernel_rfl
    have st : ∀ i, i < len → Stands w b (off + i * 4) := fun i hi => by
      obtain ⟨cs', h1, h2⟩ := hx i (by rw [hmm]; split <;> omega)
      rw [c31, add_plain] at h1
      exact open_act h1 h2
    have hrow : ∀ i, i < len → Sx.rowAt ((List.range len).map fun i => rowW w b (off + i * 4)) i = rowW w b (off + i * 4) := fun i hi => by
      unfold Sx.rowAt
      rw [List.getD_eq_getElem?_getD, List.getElem?_map, List.getElem?_range hi]; rfl
    refine ⟨(List.range len).map fun i => rowW w b (off + i * 4), len, b, { n := cap, o := off }, fun E nm hE => ?_, ?_, fun E => ⟨fun e => by (cases e), fun _ => ⟨shape_lt hsh, fun i j v hi hj hv => ?_⟩⟩⟩
    · simp [den, hE, hl]
    · unfold okA
      rw [Bool.and_eq_true, beqT]
      refine ⟨by simp, List.all_eq_true.2 fun r hr => ?_⟩
      obtain ⟨i, hi, rfl⟩ := List.mem_map.1 hr
      exact stands_i64 (st i (List.mem_range.1 hi))
    · have hi : i < len := by simpa using hi
      rw [hrow i hi] at hv
      rw [show off + (i * shA.length + j) = off + i * 4 + j by show off + (i * 4 + j) = _; omega]
      exact stands_at (st i hi) j v hj hv
end
end Go.Proofs.Ytoekeplljjaehaa

/- Layer 26: numbers that are handed in, out of what is read of them. -/
set_option linter.unusedVariables false
set_option linter.unusedSimpArgs false
namespace Go.Proofs.Ytoekeplljjaehaa
open Go Sx Go.ChangeShapes Go.WideShapes Go.ChangeAt Go.RowKit Go.Joins Go.Deep
theorem denC_ints (E : Env) (l : List Int) : denC E (ints .i64 l) (l.map (Value.int .i64)) := ⟨denL_ints l, by unfold allOne; rw [List.all_map]; exact List.all_eq_true.2 fun x _ => rfl⟩
section
variable {H : Type} {enc : TypeId × Value → H}
theorem open_ks {w : World} {base b0 : Nat} {spare : Nat → Bool} {held : Bool} {v : Value} {d : DataW H} {p : List MemPlace} (hv : Value.okWide Try.prog w .any b0 29 v) (h : DataW.Trod enc Try.prog w base spare held 29 v d p) :
    ∃ (ks : List Int) (l b : Nat) (c : Cap), (∀ (E : Env) (nm : Nat), E nm = some (b, c) → den E (.dsl nm l) = some v) ∧ ks.length = l ∧ ks.all i64B = true ∧ ∀ E, ObjR E w b c (.flat false (ints .i64 ks)) := by
  obtain ⟨n, h⟩ := h
  obtain ⟨a, len, cap, rfl⟩ := okWide_slice Try.underlying29 hv
  rcases open_ints Try.underlying29 Try.underlying3 (by kernel_rfl) h with ⟨hc, _⟩ | ⟨a', len', cap', zs, hc, hb, hl, hm, hz, _, hcell, hwf⟩
  · simp [Value.cells] at hc
    obtain ⟨rfl, rfl, rfl⟩ := hc
    exact ⟨[], 0, 0, { n := 0, z := true }, fun E nm hE => by simp [den, hE], rfl, rfl, fun E => ⟨[], denC_ints E [], fun _ => rfl, fun e => by cases e⟩⟩
  · simp [Value.cells] at hc
    obtain ⟨rfl, rfl, rfl⟩ := hc
    have hok : Cell.ok Try.prog w .any b0 29 (.slice (some a') len cap) := by
      simpa only [Value.okWide, Cell.okWide, Try.underlying29] using hv
    simp only [Cell.ok, Try.underlying29] at hok
    obtain ⟨_, _, _, hsp, row, cells, hsh, _⟩ := hok
    obtain ⟨b, off, sp⟩ := a'
    have hsp : sp = none := hsp
    subst hsp
    have hlen : len ≤ zs.length := by rw [hz]; split <;> omega
    refine ⟨zs.take len, len, b, { n := cap, o := off }, fun E nm hE => ?_, by rw [List.length_take]; omega, List.all_eq_true.2 fun x hx => i64B_to (wf_i64 (hwf x (List.mem_of_mem_take hx))), fun E => ⟨_, denC_ints E _, fun e => by (cases e), fun _ => ⟨shape_lt hsh, fun i x hi => ?_⟩⟩⟩
    · simp [den, hE, hl]
    · rw [List.getElem?_map, List.getElem?_take] at hi
      split at hi
      · rename_i h1
        have h2 : i < zs.length := by omega
        rw [List.getElem?_eq_getElem h2] at hi
        simp only [Option.map_some, Option.some.injEq] at hi
        have := hcell i h2
        rw [add_plain, List.getD_eq_getElem?_getD, List.getElem?_eq_getElem h2] at this
        rw [this, ← hi]; rfl
      · cases hi
end
end Go.Proofs.Ytoekeplljjaehaa

/- Layer 26: calls that are handed in, with the numbers that they hold. -/
set_option linter.unusedVariables false
set_option linter.unusedSimpArgs false
namespace Go.Proofs.Ytoekeplljjaehaa
open Go Sx Go.ChangeShapes Go.WideShapes Go.ChangeAt Go.RowKit Go.Joins Go.Deep
def shN : List CK := [.int .u8, .int .i64, .str, .sl [.int .i64]]
/-- A row, with numbers. -/
def rowX (w : World) (b off : Nat) (ks : List Int) : List CV :=
  [.mk (match w.cell? ⟨b, off, none⟩ with | some (.int _ n) => n | _ => 0) [] false [],
   .mk (match w.cell? ⟨b, off + 1, none⟩ with | some (.int _ n) => n | _ => 0) [] false [],
   .mk 0 (match w.cell? ⟨b, off + 2, none⟩ with | some (.string s) => s.data.toList | _ => []) false [], .mk 0 [] false (ks.map fun n => [.mk n [] false []])]
theorem kids_rowX (w : World) (b off : Nat) (ks : List Int) : kidsOf (rowCV (rowX w b off ks) 3) = ks := by
  show (ks.map fun n => [CV.mk n [] false []]).map (fun r => (rowCV r 0).n) = ks
  rw [List.map_map]
  exact List.map_id'' (fun _ => rfl) ks
/-- The numbers of a row, where they stand. -/
def KidW (w : World) (b off : Nat) (ks : List Int) (p : Option (Nat × Nat × Nat)) : Prop :=
  (ks.all i64B = true ∧ ks.length ≤ 9223372036854775807) ∧ match p with
  | none => ks = [] ∧ ∃ q : Option Addr, w.cell? ⟨b, off + 3, none⟩ = some (.slice q 0 0)
  | some p => p.1 < w.heap.size ∧ ks.length ≤ p.2.2 ∧ w.cell? ⟨b, off + 3, none⟩ = some (.slice (some ⟨p.1, p.2.1, none⟩) ks.length p.2.2) ∧ ∀ t x, (ks.map (Value.int .i64))[t]? = some x → w.cell? ⟨p.1, p.2.1 + t, none⟩ = some x
section
variable {H : Type} {enc : TypeId × Value → H}
theorem open_kid {w : World} {base : Nat} {held : Bool} {n : Nat} {cs : List Value} {x : DataW H × List MemPlace} {b off : Nat} (hc : w.cells? base ⟨b, off, none⟩ 4 = some cs) (h : DataW.trod enc Try.prog w base (fun _ => true) held n 31 cs = some x) : ∃ ks p, KidW w b off ks p := by
  obtain ⟨xs, m, rfl, _, hl, hx, hf⟩ := DataW.trod_struct Try.underlying31 h
  obtain ⟨_, hlen, hcell⟩ := World.cells?_some hc
  match cs, hlen with
  | [c0, c1, c2, c3], _ =>
    have e3 := hf 3 _ rfl
    have k3 := hcell 3 (by omega)
    rw [add_plain] at k3
    have hx : xs.length = 4 := hx
    rw [List.getElem?_eq_getElem (by omega)] at e3
    have c29 : Try.prog.cellsOf 29 = 1 := by kernel_rfl
    have k3 : w.cell? ⟨b, off + 3, none⟩ = some c3 := k3
    rcases open_ints Try.underlying29 Try.underlying3 (by kernel_rfl) e3 with ⟨hq, _⟩ | ⟨a', len', cap', zs, hq, hb, hl, hm, hz, _, hcl, hwf⟩
    · have hq : List.take (Try.prog.cellsOf 29) (List.drop 3 [c0, c1, c2, c3]) = [.slice none 0 0] := hq
      rw [c29] at hq
      have hq : c3 = .slice none 0 0 := by simpa using hq
      subst hq
      exact ⟨[], none, ⟨rfl, by simp⟩, rfl, none, k3⟩
    · have hq : List.take (Try.prog.cellsOf 29) (List.drop 3 [c0, c1, c2, c3]) = [.slice (some a') len' cap'] := hq
      rw [c29] at hq
      have hq : c3 = .slice (some a') len' cap' := by simpa using hq
      subst hq
      have hz : zs.length = cap' := hz
      by_cases h0 : cap' = 0
      · subst h0
        have : len' = 0 := by omega
        subst this
        exact ⟨[], none, ⟨rfl, by simp⟩, rfl, some a', k3⟩
      · have hc0 := hcl 0 (by omega)
        obtain ⟨ab, ao, sp⟩ := a'
        have hsp : sp = none ∧ ab < w.heap.size := by
          unfold World.cell? at hc0
          split at hc0
          · rename_i he
            have hlt := (Array.getElem?_eq_some_iff.1 he).1
            cases sp with
            | none => exact ⟨rfl, hlt⟩
            | some s => simp [Addr.add] at hc0
          · cases hc0
        obtain ⟨rfl, hlt⟩ := hsp
        refine ⟨zs.take len', some (ab, ao, cap'), ⟨List.all_eq_true.2 fun x hx => i64B_to (wf_i64 (hwf x (List.mem_of_mem_take hx))), by rw [List.length_take]; have h9 : maxLen ≤ 9223372036854775807 := Nat.le_of_ble_eq_true (by kernel_rfl); omega⟩, hlt, by rw [List.length_take]; show _ ≤ cap'; omega, ?_, fun t x ht => ?_⟩
        · rw [k3]
          have : (zs.take len').length = len' := by rw [List.length_take]; omega
          rw [this]
        · rw [List.getElem?_map, List.getElem?_take] at ht
          split at ht
          · rename_i h1
            have h2 : t < zs.length := by omega
            rw [List.getElem?_eq_getElem h2] at ht
            simp only [Option.map_some, Option.some.injEq] at ht
            have := hcl t h2
            rw [add_plain, List.getD_eq_getElem?_getD, List.getElem?_eq_getElem h2] at this
            show w.cell? ⟨ab, ao + t, none⟩ = some x
            rw [this, ← ht]; rfl
          · cases ht
def okX (l : Nat) (rs : List (List CV)) : Bool := okA l rs && rs.all fun r => (kidsOf (rowCV r 3)).all i64B && decide ((kidsOf (rowCV r 3)).length ≤ 9223372036854775807)
/-- The calls that are handed in, with their numbers. -/
theorem open_actsN {w : World} {base b0 : Nat} {held : Bool} {v : Value} {d : DataW H} {p : List MemPlace} (hv : Value.okWide Try.prog w .any b0 22 v) (h : DataW.Trod enc Try.prog w base (fun _ => true) held 22 v d p) :
    ∃ (rows : List (List CV)) (l b : Nat) (c : Cap), (∀ (E : Env) (nm : Nat), E nm = some (b, c) → den E (.dsl nm l) = some v) ∧ okX l rows = true ∧ (∀ E, ObjR E w b c (.flatN shN rows)) ∧ ∀ k, under c k → k < w.heap.size := by
  obtain ⟨n, h⟩ := h
  obtain ⟨a, len, cap, rfl⟩ := okWide_slice Try.underlying22 hv
  rcases open_slice Try.underlying22 h with ⟨hc, _⟩ | ⟨a', len', cap', m, n', D, Pl, hc, hb, hl, hm, hmm, _, hx⟩
  · simp [Value.cells] at hc
    obtain ⟨rfl, rfl, rfl⟩ := hc
    have hbare : Cap.bare { n := 0, z := true } := Cap.bare_of fun _ _ => rfl
    exact ⟨[], 0, 0, { n := 0, z := true }, fun E nm hE => by simp [den, hE], rfl, fun E => ⟨fun k hk => absurd hk (hbare k), fun _ => rfl, fun e => by cases e⟩, fun k hk => absurd hk (hbare k)⟩
  · simp [Value.cells] at hc
    obtain ⟨rfl, rfl, rfl⟩ := hc
    have hok : Cell.ok Try.prog w .any b0 22 (.slice (some a') len cap) := by
      simpa only [Value.okWide, Cell.okWide, Try.underlying22] using hv
    simp only [Cell.ok, Try.underlying22] at hok
    obtain ⟨_, _, _, hsp, row, cells, hsh, _⟩ := hok
    obtain ⟨b, off, sp⟩ := a'
    have hsp : sp = none := hsp
    subst hsp
    have c31 : Try.prog.cellsOf 31 = 4 := by kernel_rfl
    have st : ∀ i, i < len → Stands w b (off + i * 4) ∧ ∃ ks p, KidW w b (off + i * 4) ks p := fun i hi => by
      obtain ⟨cs', h1, h2⟩ := hx i (by rw [hmm]; split <;> omega)
      rw [c31, add_plain] at h1
      exact ⟨open_act h1 h2, open_kid h1 h2⟩
    have hch : ∃ (K : Nat → List Int) (Q : Nat → Option (Nat × Nat × Nat)), ∀ i, i < len → KidW w b (off + i * 4) (K i) (Q i) := by
      refine ⟨fun i => if hi : i < len then Classical.choose (st i hi).2 else [], fun i => if hi : i < len then Classical.choose (Classical.choose_spec (st i hi).2) else none, fun i hi => ?_⟩
      simp only [dif_pos hi]
      exact Classical.choose_spec (Classical.choose_spec (st i hi).2)
    obtain ⟨K, Q, hKQ⟩ := hch
    let S : Nat → Nat → Option (Nat × Nat × Nat) := fun i j => if i < len ∧ j = 3 then Q i else none
    let rows := (List.range len).map fun i => rowX w b (off + i * 4) (K i)
    have hrow : ∀ i, i < len → Sx.rowAt rows i = rowX w b (off + i * 4) (K i) := fun i hi => by
      unfold Sx.rowAt
      rw [List.getD_eq_getElem?_getD, List.getElem?_map, List.getElem?_range hi]; rfl
    have hund : ∀ k, under { n := cap, o := off, sub := S } k → k < w.heap.size := fun k ⟨i, j, p, e1, e2⟩ => by
      have e1 : S i j = some p := e1
      simp only [S] at e1
      split at e1
      · rename_i hij
        have := (hKQ i hij.1).2
        rw [e1] at this
        rw [← e2]; exact this.1
      · cases e1
    refine ⟨rows, len, b, { n := cap, o := off, sub := S }, fun E nm hE => ?_, ?_, fun E => ⟨hund, fun e => (by cases e), fun _ => ⟨shape_lt hsh, fun i j v hi hj hv => ?_, fun i j k hi hk => ?_⟩⟩, hund⟩
    · simp [den, hE, hl]
    · unfold okX okA
      rw [Bool.and_eq_true, Bool.and_eq_true, beqT]
      refine ⟨⟨by simp [rows], List.all_eq_true.2 fun r hr => ?_⟩, List.all_eq_true.2 fun r hr => ?_⟩
      · obtain ⟨i, hi, rfl⟩ := List.mem_map.1 hr
        exact stands_i64 (st i (List.mem_range.1 hi)).1
      · obtain ⟨i, hi, rfl⟩ := List.mem_map.1 hr
        simp only [kids_rowX]
        obtain ⟨h8, h9⟩ := (hKQ i (List.mem_range.1 hi)).1
        rw [h8, decide_eq_true h9]; rfl
    · have hi : i < len := by simpa [rows] using hi
      have hj : j < 4 := hj
      rw [hrow i hi] at hv
      show w.cell? ⟨b, off + (i * 4 + j), none⟩ = some v
      rw [show off + (i * 4 + j) = off + i * 4 + j by omega]
      refine stands_at (st i hi).1 j v hj ?_
      match j, hj with
      | 0, _ => exact hv
      | 1, _ => exact hv
      | 2, _ => exact hv
      | 3, _ => cases hv
    · have hi : i < len := by simpa [rows] using hi
      match j, hk with
      | 3, hk =>
        have hk : CK.sl [.int .i64] = CK.sl [.int k] := by simpa [shN] using hk
        cases hk
        rw [hrow i hi, kids_rowX]
        obtain ⟨_, h2⟩ := hKQ i hi
        unfold KidAt
        have eS : S i 3 = Q i := by simp only [S]; rw [if_pos ⟨hi, by trivial⟩]
        show (match S i 3 with | none => _ | some p => _)
        rw [eS]
        have eo : off + (i * shN.length + 3) = off + i * 4 + 3 := by show off + (i * 4 + 3) = _; omega
        cases hq : Q i with
        | none =>
          rw [hq] at h2
          obtain ⟨h3, q, h4⟩ := h2
          refine ⟨h3, q, ?_⟩
          show w.cell? ⟨b, off + (i * shN.length + 3), none⟩ = _
          rw [eo]; exact h4
        | some p =>
          rw [hq] at h2
          refine ⟨h2.2.1, ?_, h2.2.2.2⟩
          show w.cell? ⟨b, off + (i * shN.length + 3), none⟩ = _
          rw [eo]; exact h2.2.2.1
      | 0, hk => simp [shN] at hk
      | 1, hk => simp [shN] at hk
      | 2, hk => simp [shN] at hk
      | j + 4, hk => simp [shN] at hk
end
end Go.Proofs.Ytoekeplljjaehaa

/- Layer 26: a call of both disks, nothing pending: the tree. -/
set_option linter.unusedVariables false
set_option linter.unusedSimpArgs false
namespace Go.Proofs.Ytoekeplljjaehaa
open Go Sx
def d0 (b : Bool) (n : Nat) (l : List Int) (k t K : List UInt8) : List PObj := [.raw (.cells [.slice 3 0 n n, .slice 4 0 n n, .nilslice] dT), .raw (.cells [.vec 5 n, .nilslice] rT), .flatI b l, .arrB k 5, .arrB t 5, .vecB K 5]
/-- Both disks behind a write: which of them has pieces now. -/
def dW (dV rV : Bool) (n : Nat) (l : List Int) (k t K : List UInt8) (a : Int) (s : List UInt8) : List PObj :=
  [.raw (.cells [.slice 3 0 n n, .slice 4 0 n n, bcond dV (.vec 6 (pl a s)) .nilslice] dT), .raw (.cells [.vec 5 n, bcond rV (.vec (bcond dV 7 6) (pl a s)) .nilslice] rT), .flatI false l, .arrB k 5, .arrB (bcond dV (splice a.toNat s t) t) 5, .vecB K 5] ++ (bcond dV [.vecR shP (pr a s) pT] [] ++ bcond rV [.vecR shP (pr a s) qT] [])
def lD (n : Nat) : Bool := litD 0 0 1 0 2 0 dT 5 5 n n n n
/-- A write of both. -/
def wB (n : Nat) (l : List Int) (k t K : List UInt8) (a : Int) (s : List UInt8) : Ans :=
  let r (v : Int) (dV : Bool) : Ans := .chk (wOk n a s) (.br (inD n a s.length) (.br s.isEmpty (.ret (.bool (v == 0)) (dW dV false n l k t K a s)) (.ret (.bool (v == 0)) (dW dV true n l k t K a s))) (.ret (.bool (v == 260)) (dW dV false n l k t K a s)))
  .chk (lD n) (.chk (smN n k t) (.chk (i64B a) (.br (inD n a s.length) (.br s.isEmpty (r 0 false) (r 0 true)) (r 260 false))))
def m200 (s : List UInt8) : Int := if 200 < (s.length : Int) then 200 else (s.length : Int)
def s200 (s : List UInt8) : List UInt8 := loS (m200 s) s
def mN (n : Nat) (a : Int) (s : List UInt8) : Int := if IntKind.i64.wrap ((n : Int) - a) < (s.length : Int) then IntKind.i64.wrap ((n : Int) - a) else (s.length : Int)
def lZ (n : Nat) : Bool := litZ 0 0 1 2 0 3 0 dT 5 5 n n n n
def xDo0 (n len : Nat) (l : List Int) (k t K : List UInt8) (kd a : Int) (s : List UInt8) : Ans :=
  .chk (slB (m200 s) s) (.br (kd.tmod 4 == 0) (wB n l k t K a (s200 s)) (.br (kd.tmod 4 == 1)
    (.chk (i64B a) (.chk (posB n) (.chk (slB (mN n (pkI a n) (s200 s)) (s200 s)) (wB n l k t K (pkI a n) (loS (mN n (pkI a n) (s200 s)) (s200 s))))))
    (.br (kd.tmod 4 == 2) (.chk (lD n) (.chk (smN n k t) (.ret (.bool true) (d0 false n l t t K))))
      (.br (decide (a < 0)) (.chk (lZ n) (.chk (askN len l) (.chk (smN n k t) (.br l.isEmpty
          (.chk (askN len l) (.br l.isEmpty (.ret (.bool true) (d0 false n l k k K)) (.ret (.bool false) (d0 false n l k k K))))
          (.chk (askN len l) (.br l.isEmpty (.ret (.bool false) (d0 false n l k t K)) (.ret (.bool true) (d0 false n l k t K))))))))
        (.chk (lD n) (.chk (smN n k t) (.ret (.bool true) (d0 false n l k k K))))))))
theorem cDo0 (b : Bool) (n len : Nat) (l : List Int) (k t K : List UInt8) (kd a : Int) (s : List UInt8) : Comes tDo nolv 12 [.ptr 0 0, .ptr 1 0, .agg [.int .u8 kd, .int .i64 a, .str s, .dsl 2 len]] (d0 b n l k t K) (xDo0 n len l k t K kd a s) := by unfold Comes; kernel_rfl
end Go.Proofs.Ytoekeplljjaehaa
