/- Layer 4: bytes that are handed in, out of what is read of them. -/
import Derived.Test.YtebieapmoaaahaaGreatDoorGr08
import Derived.Test.YtebieapmoaaahaaGreatDoorSxYr
set_option linter.unusedVariables false
set_option linter.unusedSimpArgs false
namespace Go.Proofs.YtebieapmoaaahaaGreatDoor
open Go Sx Go.ChangeShapes Go.WideShapes Go.ChangeAt Go.RowKit Go.Joins Go.Deep
theorem wf_u8 {n : Int} (h : (Lit.int .u8 n).wf = true) : 0 ≤ n ∧ n < 256 := by
  simp only [Lit.wf, IntKind.has, IntKind.min, IntKind.max, IntKind.bits, IntKind.signed, Bool.and_eq_true, decide_eq_true_eq] at h
  simp at h
  omega
theorem kids : Kids Tryz.prog (· < Tryz.prog.types.size) := kids_rows (by kernel_rfl) (by kernel_rfl)
theorem full : ∀ t e, t < Tryz.prog.types.size → Tryz.prog.underlying t = some (.slice e) → 0 < Tryz.prog.cellsOf e := slices_full_of Tryz.prog (by kernel_rfl)
theorem shape_lt {w : World} {b : Nat} {x : TypeId × Nat} (h : w.shape? b = some x) : b < w.heap.size := by
  unfold World.shape? at h
  split at h
  · rename_i he; exact (Array.getElem?_eq_some_iff.1 he).1
  · cases h
/-- The calls that are handed in. -/
theorem cells5 : Tryz.prog.cellsOf 5 = 1 := by kernel_rfl
section
variable {H : Type} {enc : TypeId × Value → H}
set_option maxRecDepth 100000 in
theorem open_u8s {w : World} {base b0 : Nat} {spare : Nat → Bool} {held : Bool} {v : Value} {d : DataW H} {p : List MemPlace} (hv : Value.okWide Tryz.prog w .any b0 32 v) (h : DataW.Trod enc Tryz.prog w base spare held 32 v d p) :
    ∃ (ks : List UInt8) (l b : Nat) (c : Cap), (∀ (E : Env) (nm : Nat), E nm = some (b, c) → den E (.dsl nm l) = some v) ∧ ks.length = l ∧ ∀ E, ObjR E w b c (.flat false (u8s ks)) := by
  obtain ⟨n, h⟩ := h
  obtain ⟨a, len, cap, rfl⟩ := okWide_slice Tryz.underlying32 hv
  rcases open_ints Tryz.underlying32 Tryz.underlying5 cells5 h with ⟨hc, _⟩ | ⟨a', len', cap', zs, hc, hb, hl, hm, hz, _, hcell, hwf⟩
  · simp [Value.cells] at hc
    obtain ⟨rfl, rfl, rfl⟩ := hc
    exact ⟨[], 0, 0, ⟨0, 0, true⟩, fun E nm hE => by simp [den, hE], rfl, fun E => ⟨[], denC_u8s [], fun _ => rfl, fun e => by cases e⟩⟩
  · simp [Value.cells] at hc
    obtain ⟨rfl, rfl, rfl⟩ := hc
    have hok : Cell.ok Tryz.prog w .any b0 32 (.slice (some a') len cap) := by
      simpa only [Value.okWide, Cell.okWide, Tryz.underlying32] using hv
    simp only [Cell.ok, Tryz.underlying32] at hok
    obtain ⟨_, _, _, hsp, row, cells, hsh, _⟩ := hok
    obtain ⟨b, off, sp⟩ := a'
    have hsp : sp = none := hsp
    subst hsp
    have hlen : len ≤ zs.length := by rw [hz]; split <;> omega
    refine ⟨(zs.take len).map fun z => UInt8.ofNat z.toNat, len, b, ⟨cap, off, false⟩, fun E nm hE => ?_, by rw [List.length_map, List.length_take]; omega, fun E => ⟨_, denC_u8s _, fun e => by (cases e), fun _ => ⟨shape_lt hsh, fun i x hi => ?_⟩⟩⟩
    · simp [den, hE, hl]
    · rw [List.getElem?_map, List.getElem?_map, List.getElem?_take] at hi
      split at hi
      · rename_i h1
        have h2 : i < zs.length := by omega
        rw [List.getElem?_eq_getElem h2] at hi
        simp only [Option.map_some, Option.some.injEq] at hi
        have hw := wf_u8 (hwf _ (List.getElem_mem h2))
        have := hcell i h2
        rw [add_plain, List.getD_eq_getElem?_getD, List.getElem?_eq_getElem h2] at this
        rw [this, ← hi]
        congr 2
        rw [UInt8.toNat_ofNat']
        show zs[i] = _
        omega
      · cases hi
end
end Go.Proofs.YtebieapmoaaahaaGreatDoor
