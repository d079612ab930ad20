/- The symbolic executor, part H: what makes slices, what grows, and the small operations: they are sound. -/
import Derived.Test.YtpdhfopfjoinnaaDoorSxG
import Derived.Laws.Runes
set_option linter.unusedSimpArgs false
namespace Go.Proofs.YtpdhfopfjoinnaaDoor.Sx
open Go

variable {P : Program} {E : Env} {w : World}

/-- A hint's other telling of a plain result. -/
theorem good_fin {F : Foot} {h : Hint} {ob : List Prop} {v : AV} {r : Result Next} {x : Value} (hF : F.wr = false) (ha : F.al = []) (k : AllP (fin h ob v).obl) (hr : AllP ob → r = .ok (.value x) w ∧ den E v = some x) :
    Good E w F (fin h ob v).upd (fin h ob v).new (fin h ob v).val r := by
  obtain ⟨h1, e1, e2, e3⟩ := fin_spec k
  rw [e1, e3]
  exact Good.pure hF ha (hr h1).1 (hr h1).2

theorem good_new {k : Nat} {h : Hint} {ob : List Prop} {v : AV} {o : AObj} {r : Result Next} (kk : AllP (newA h ob v o).obl) (hr : AllP ob → Good E w ⟨[], [], [k]⟩ [] [o] v r) :
    Good E w ⟨[], [], [k]⟩ (newA h ob v o).upd (newA h ob v o).new (newA h ob v o).val r := by
  obtain ⟨h1, e1, e2, e3⟩ := newA_cases kk
  rw [e1, e2, e3]
  exact hr h1

/-- A new row of cells that a slice is told of. -/
theorem good_slice {k l c : Nat} {cs : List AV} {xs : List Value} {t : TypeId} {r : Result Next} (hk : E k = none) (hc : denC E cs xs)
    (hr : r = .ok (.value (.slice (some ⟨w.heap.size, 0, none⟩) l c)) { w with heap := w.heap.push (.cells xs.toArray t) }) :
    Good E w ⟨[], [], [k]⟩ [] [.cells cs t] (.slice k 0 l c) r :=
  ⟨_, _, E.set k (w.heap.size, 0), .inl hr, by simp [den, Env.set_same], .push rfl rfl rfl rfl hk ⟨xs, denC_mono (.set hk) hc, push_new rfl⟩ (fun e => absurd rfl e)⟩

theorem good_vec {k l sz : Nat} {cs : List AV} {xs : List Value} {t : TypeId} {r : Result Next} (hk : E k = none) (hc : denC E cs xs) (hl : cs.length = l * sz)
    (hr : r = .ok (.value (.slice (some ⟨w.heap.size, 0, none⟩) l l)) { w with heap := w.heap.push (.cells xs.toArray t) }) :
    Good E w ⟨[], [], [k]⟩ [] [.vec cs t sz] (.vec k l) r :=
  ⟨_, _, E.set k (w.heap.size, { n := l }), .inl hr, by simp [den, Env.set_same], .push rfl rfl rfl rfl hk ⟨xs, [], denC_mono (.set hk) hc, ⟨(0, 0), by rw [push_new rfl, List.append_nil], .inl rfl⟩, by rw [List.append_nil, denC_length hc, hl], rfl, rfl⟩ (fun e => absurd rfl e)⟩

theorem range_mod (zs : List Value) : ∀ n : Nat, (List.range (n * zs.length)).map (fun i => zs.toArray[i % zs.toArray.size]!) = (List.replicate n zs).flatten
  | 0 => by simp
  | n + 1 => by
    rw [List.replicate_succ', List.flatten_append, ← range_mod zs n, Nat.succ_mul, List.range_add, List.map_append, List.map_map]
    congr 1
    simp only [List.flatten_cons, List.flatten_nil, List.append_nil]
    apply List.ext_getElem?
    intro i
    simp only [List.getElem?_map, List.getElem?_range']
    by_cases hi : i < zs.length
    · simp [hi, Nat.mod_eq_of_lt hi]
    · simp [hi, List.getElem?_eq_none (Nat.le_of_not_lt hi)]

theorem denC_flat {z : List AV} {zs : List Value} (h : denC E z zs) : ∀ n : Nat, denC E (List.replicate n z).flatten (List.replicate n zs).flatten
  | 0 => ⟨rfl, rfl⟩
  | n + 1 => by simp only [List.replicate_succ, List.flatten_cons]; exact denC_append h (denC_flat h n)

theorem good_makeSlice {o : Oper} {ρ : Operand → Value} {t e : TypeId} {p q : Operand} {h : Hint} {k1 k2 : IntKind} {len cap : Int} {k : Nat} {ie : TypeInfo} {z : AV} {r : Res} (ho : o.op = .makeSlice t p q)
    (hp : den E (.int k1 len) = some (ρ p)) (hq : den E (.int k2 cap) = some (ρ q)) (hu : P.underlying t = some (.slice e)) (hi : P.info? e = some ie) (hz : zeroA P e = some z) (h0 : 0 < ie.size) (hl : z.cells.length = ie.size) (hn : z.notTuple = true) (hk : E k = none)
    (hr : r = newA h [0 ≤ len, len ≤ cap, cap * ie.bytes ≤ 281474976710656, cap < 9223372036854775808] (.slice k 0 len.toNat cap.toNat) (.cells (List.replicate cap.toNat z.cells).flatten e)) (kk : AllP r.obl) :
    Good E w ⟨[], [], [k]⟩ r.upd r.new r.val ((execOp ρ o).run P w) := by
  subst hr
  refine good_new kk fun hob => ?_
  obtain ⟨h1, h2, h3, h4, _⟩ := hob
  obtain ⟨x, hx, hd⟩ := run_zeroValue (w := w) (E := E) hz
  have hp' : ρ p = .int k1 len := by simpa [den] using hp.symm
  have hq' : ρ q = .int k2 cap := by simpa [den] using hq.symm
  have hw1 : IntKind.i64.wrap len = len := IntWalk.i64_in len (by omega)
  have hw2 : IntKind.i64.wrap cap = cap := IntWalk.i64_in cap (by omega)
  have hsz : P.cellsOf e = ie.size := by simp [Program.cellsOf, hi]
  obtain ⟨zs, hzs, hze⟩ := notTuple_cells hn hd
  have hzl : zs.length = ie.size := (denC_length hzs).trans hl
  refine good_slice hk (denC_flat hzs cap.toNat) ?_
  have hbig : ¬ ((2 : Int) ^ 48 < (ie.bytes : Int) * cap) := by
    rw [Int.mul_comm]; show ¬ ((281474976710656 : Int) < cap * ie.bytes); omega
  have htl : ¬ (((cap < 0 ∨ 281474976710656 < (ie.bytes : Int) * cap) ∨ len < 0) ∨ cap < len) := by
    rintro (((h | h) | h) | h)
    · omega
    · exact hbig h
    · omega
    · omega
  have hrange : (Array.range (cap.toNat * ie.size)).map (fun x => (if cap.toNat * ie.size = 0 then #[] else zs.toArray)[x % (if cap.toNat * ie.size = 0 then #[] else zs.toArray).size]!) = ((List.replicate cap.toNat zs).flatten).toArray := by
    by_cases hc : cap.toNat * ie.size = 0
    · have hc0 : cap.toNat = 0 := by
        rcases Nat.mul_eq_zero.1 hc with h | h
        · exact h
        · omega
      rw [hc0]; simp
    · have := range_mod zs cap.toNat
      rw [hzl] at this
      rw [if_neg hc, ← this]
      apply Array.ext'
      rw [Array.toList_map, Array.toList_range]
  simp only [execOp, ho, Instr.makeSlice, Sem.run_bind, run_underlying' hu, Result.andThen_ok, hp', hq', asInt, asIntOf, Sem.run_pure, typeInfo, run_program, hi]
  rw [Sem.run_ite, if_neg (by simpa [hw1, hw2] using htl)]
  simp only [Sem.run_pure, Sem.run_bind, Result.andThen_ok, run_askRoom, run_sizeOf' hi, hsz, hw1, hw2]
  by_cases hc : cap.toNat * ie.size = 0
  · rw [if_pos hc] at hrange ⊢
    simp only [Sem.run_pure, Sem.run_bind, Result.andThen_ok, newRow, run_newObj, hrange]
  · rw [if_neg hc] at hrange ⊢
    simp only [Sem.run_pure, Sem.run_bind, Result.andThen_ok, newRow, run_newObj, hx, hze, hrange]

end Go.Proofs.YtpdhfopfjoinnaaDoor.Sx
