/- The symbolic executor, part B: what loads and stores do to worlds. -/
import Derived.Test.YtpdhfopfjoinnaaDoorSxA
import Derived.Laws.Cells
namespace Go.Proofs.YtpdhfopfjoinnaaDoor.Sx
open Go

/-- Only block 'b' may have been written. -/
structure Upd (b : Nat) (w w' : World) : Prop where
  keep : ∀ k : Nat, k ≠ b → w'.heap[k]? = w.heap[k]?
  size : w'.heap.size = w.heap.size
  os : w'.os = w.os
  tape : w'.tape = w.tape
  output : w'.output = w.output

theorem Upd.refl (b : Nat) (w : World) : Upd b w w := ⟨fun _ _ => rfl, rfl, rfl, rfl, rfl⟩
theorem Upd.trans {b : Nat} {x y z : World} (h : Upd b x y) (k : Upd b y z) : Upd b x z :=
  ⟨fun n hn => (k.keep n hn).trans (h.keep n hn), k.size.trans h.size, k.os.trans h.os, k.tape.trans h.tape, k.output.trans h.output⟩

theorem cell_of_block {w : World} {b : Nat} {cs : Array Value} {t : TypeId} {fr : Nat × Nat} (h : w.heap[b]? = some (.cells cs t fr)) (j : Nat) : w.cell? ⟨b, j, none⟩ = cs[j]? := by
  simp only [World.cell?, h]; rfl

theorem setCell_block {w : World} {b : Nat} {cs : Array Value} {t : TypeId} {m : Nat × Nat} (h : w.heap[b]? = some (.cells cs t m)) (j : Nat) (v : Value) :
    (w.setCell ⟨b, j, none⟩ v).heap[b]? = some (.cells (cs.setIfInBounds j v) t m) ∧ Upd b w (w.setCell ⟨b, j, none⟩ v) := by
  refine ⟨?_, ?_, ?_, rfl, rfl, rfl⟩
  · simp [World.setCell, Array.getElem?_modify, h]
  · intro k hk
    simp only [World.setCell, Array.getElem?_modify]
    rw [if_neg (by omega)]
  · simp [World.setCell]

theorem Addr.add_none (b o n : Nat) : (Addr.mk b o none).add n = ⟨b, o + n, none⟩ := by
  unfold Addr.add; split
  · rename_i h; simp [h]
  · rfl

/-- Cells that are stored, one behind the other. -/
def over (cs : List Value) (off : Nat) : List Value → List Value
  | [] => cs
  | v :: vs => over (cs.set off v) (off + 1) vs

theorem over_eq : ∀ (vs cs : List Value) (off : Nat), off + vs.length ≤ cs.length → over cs off vs = cs.take off ++ vs ++ cs.drop (off + vs.length)
  | [], cs, off, h => by simp [over]
  | v :: vs, cs, off, h => by
    simp only [List.length_cons] at h
    rw [over, over_eq vs _ _ (by simp; omega)]
    apply List.ext_getElem?
    intro i
    simp only [List.getElem?_append, List.getElem?_take, List.getElem?_drop, List.length_append, List.length_take, List.length_set, List.length_cons, List.getElem?_set]
    have e1 : min (off + 1) cs.length = off + 1 := by omega
    have e2 : min off cs.length = off := by omega
    rw [e1, e2]
    by_cases h1 : i < off
    · simp [show i < off + 1 + vs.length by omega, show i < off + 1 by omega, show i < off + (vs.length + 1) by omega, h1, show off ≠ i by omega]
    · by_cases h2 : i = off
      · subst h2; simp [show i < i + 1 + vs.length by omega, show i < i + (vs.length + 1) by omega, show i < cs.length by omega]
      · by_cases h3 : i < off + 1 + vs.length
        · simp only [h3, show ¬ i < off + 1 by omega, show i < off + (vs.length + 1) by omega, h1, if_true, if_false]
          rw [show i - off = (i - (off + 1)) + 1 by omega, List.getElem?_cons_succ]
        · simp only [h3, show ¬ i < off + (vs.length + 1) by omega, if_false]
          rw [if_neg (by omega)]
          congr 1; omega

theorem run_storeCells {P : Program} {b : Nat} {t : TypeId} {m : Nat × Nat} : ∀ (vs : List Value) (cs : List Value) (off i : Nat) (w : World), w.heap[b]? = some (.cells cs.toArray t m) → okM m cs.length → off + i + vs.length ≤ cs.length → allOne vs = true →
    ∃ w', (storeCells ⟨b, off, none⟩ vs i).run P w = .ok () w' ∧ w'.heap[b]? = some (.cells (over cs (off + i) vs).toArray t m) ∧ Upd b w w'
  | [], cs, off, i, w, h, hm, hl, ho => ⟨w, rfl, h, .refl _ _⟩
  | v :: vs, cs, off, i, w, h, hm, hl, ho => by
    simp only [List.length_cons] at hl
    simp only [allOne, List.all_cons, Bool.and_eq_true] at ho
    obtain ⟨hb, hu⟩ := setCell_block h (off + i) v
    simp only [List.setIfInBounds_toArray] at hb
    obtain ⟨w', hr, hw, hu'⟩ := run_storeCells vs (cs.set (off + i) v) off (i + 1) _ hb (by simpa using hm) (by simp; omega) (by simpa [allOne] using ho.2)
    refine ⟨w', ?_, hw, hu.trans hu'⟩
    have hlt : off + i < cs.length := by omega
    simp only [storeCells, Sem.run_bind, Addr.add_none]
    rw [run_store P w _ v _ ho.1]
    have hc : w.cell? ⟨b, off + i, none⟩ = some cs[off + i] := by rw [cell_of_block h]; simp [hlt]
    have hf : w.frozen? ⟨b, off + i, none⟩ = false := by
      obtain ⟨m1, m2⟩ := m
      rcases hm with e | e
      · cases e; simp [World.frozen?, h]
      · simp only [World.frozen?, h, Bool.and_eq_false_imp, decide_eq_true_eq, decide_eq_false_iff_not]; intro h1; simp only at e; omega
    rw [hc]; simp only [hf, Bool.false_eq_true, if_false, Result.andThen_ok]
    exact hr

theorem run_loadCells_window {P : Program} {w : World} {b off : Nat} (xs : List Value) (h : ∀ (i : Nat) x, xs[i]? = some x → w.cell? ⟨b, off + i, none⟩ = some x) :
    (loadCells ⟨b, off, none⟩ xs.length).run P w = .ok xs.toArray w :=
  run_loadCells_list w _ xs fun j v hv => by rw [Addr.add_none]; exact h j v hv

/-- Which cells of a block are known, from where on. -/
def AObj.known : AObj → Option (Nat × List AV)
  | .cells cs _ => some (0, cs)
  | .vec cs _ _ => some (0, cs)
  | .ro off cs => some (off, cs)
  | .flat _ _ => none
  | .iter _ _ => none
  | .dead => none

theorem ObjR.window {E : Env} {w : World} {b : Nat} {c : Cap} {o : AObj} (h : ObjR E w b c o) {off : Nat} {cs : List AV} (k : o.known = some (off, cs)) :
    ∃ xs, denC E cs xs ∧ ∀ (i : Nat) x, xs[i]? = some x → w.cell? ⟨b, off + i, none⟩ = some x := by
  cases o with
  | cells cs' t =>
    simp only [AObj.known, Option.some.injEq, Prod.mk.injEq] at k; obtain ⟨rfl, rfl⟩ := k
    obtain ⟨xs, hx, hw⟩ := h
    exact ⟨xs, hx, fun i x hi => by rw [Nat.zero_add, cell_of_block hw]; simpa using hi⟩
  | vec cs' t sz =>
    simp only [AObj.known, Option.some.injEq, Prod.mk.injEq] at k; obtain ⟨rfl, rfl⟩ := k
    obtain ⟨xs, ys, hx, ⟨m, hw, hm⟩, hl⟩ := h
    refine ⟨xs, hx, fun i x hi => ?_⟩
    rw [Nat.zero_add, cell_of_block hw]
    have hlt := (List.getElem?_eq_some_iff.1 hi).1
    simp only [List.getElem?_toArray, List.getElem?_append_left hlt, hi]
  | ro off' cs' =>
    simp only [AObj.known, Option.some.injEq, Prod.mk.injEq] at k; obtain ⟨rfl, rfl⟩ := k
    obtain ⟨xs, hx, hw, hl⟩ := h
    exact ⟨xs, hx, hw⟩
  | flat m cs => simp [AObj.known] at k
  | iter s p => simp [AObj.known] at k
  | dead => simp [AObj.known] at k

end Go.Proofs.YtpdhfopfjoinnaaDoor.Sx
