/- The symbolic executor, part F: loads, stores, new blocks, slices, what grows: they are sound. -/
import Derived.Test.YtpdhfopfjoinnaaDoorSxE
set_option linter.unusedSimpArgs false
namespace Go.Proofs.YtpdhfopfjoinnaaDoor.Sx
open Go

variable {P : Program} {E : Env} {w : World}

/-- What is known ahead of an operation of the blocks that it names. -/
structure Pre (E : Env) (w : World) (F : Foot) (cs : List AObj) : Prop where
  len : cs.length = F.rd.length
  objs : ∀ (i n : Nat) (o : AObj), F.rd[i]? = some n → cs[i]? = some o → ∃ b c, E n = some (b, c) ∧ ObjR E w b c o
  fresh : ∀ n ∈ F.al, E n = none
  nodup : F.al.Nodup
  rdNodup : F.wr = true → F.rd.Nodup
  apart : ∀ (i j n m : Nat) (o o' : AObj) (b : Nat) (c : Cap) (b' : Nat) (c' : Cap), F.rd[i]? = some n → F.rd[j]? = some m → cs[i]? = some o → cs[j]? = some o' → o.owned = true → o'.live = true → E n = some (b, c) → E m = some (b', c') → n ≠ m → ¬ touches b' c' o' b
  glob : GlobOK w (fun k => ∃ (i n : Nat) (o : AObj) (c : Cap), F.rd[i]? = some n ∧ cs[i]? = some o ∧ o.owned = true ∧ E n = some (k, c))

def Env.set (E : Env) (k : Nat) (p : Nat × Cap) : Env := fun n => if n = k then some p else E n
theorem Env.le.set {k : Nat} {p : Nat × Cap} (h : E k = none) : Env.le E (E.set k p) := fun n q e => by
  unfold Env.set; split
  · rename_i hn; subst hn; rw [h] at e; cases e
  · exact e
theorem Env.set_same (E : Env) (k : Nat) (p : Nat × Cap) : E.set k p k = some p := by simp [Env.set]
theorem Env.set_other (E : Env) {k n : Nat} (p : Nat × Cap) (h : n ≠ k) : E.set k p n = E n := by simp [Env.set, h]

theorem push_old {w' : World} {obj : Obj} (h : w'.heap = w.heap.push obj) {k : Nat} (hk : k < w.heap.size) : w'.heap[k]? = w.heap[k]? := by
  rw [h, Array.getElem?_push, if_neg (by omega)]
theorem push_new {w' : World} {obj : Obj} (h : w'.heap = w.heap.push obj) : w'.heap[w.heap.size]? = some obj := by
  rw [h]; simp

theorem Eff.push {w' : World} {obj : Obj} {rd ws : List Nat} {k : Nat} {c : Cap} {upd : List AObj} {o : AObj} (hw : w'.heap = w.heap.push obj) (hos : w'.os = w.os) (ht : w'.tape = w.tape) (hout : w'.output = w.output)
    (hk : E k = none) (ho : ObjR (E.set k (w.heap.size, c)) w' w.heap.size c o)
    (hu : ws ≠ [] → ∀ (i n : Nat) (o : AObj), rd[i]? = some n → upd[i]? = some o → ∃ b c, E n = some (b, c) ∧ ObjR E w b c o) :
    Eff E (E.set k (w.heap.size, c)) w w' ⟨rd, ws, [k]⟩ upd [o] :=
  { le := .set hk
    only := fun n hn => Env.set_other E _ (by simpa using hn)
    wrote := fun e i n o hr hup => by
      obtain ⟨b, c, he, hob⟩ := hu (by intro h0; rw [h0] at e; cases e) i n o hr hup
      refine ⟨b, c, he, ?_⟩
      cases hl : o.live with
      | true => exact (hob.block fun h1 h2 => push_old hw (hob.lt h1 h2)).mono (.set hk)
      | false => cases o <;> simp [AObj.live] at hl; trivial
    made := fun i n o' h1 h2 => by
      cases i with
      | zero => simp at h1 h2; subst h1; subst h2; exact ⟨_, _, Env.set_same E _ _, ho, fun _ => .inl (Nat.le_refl _)⟩
      | succ i => simp at h1
    keep := fun k hk _ => push_old hw hk
    newApart := fun i j n m o1 o2 b c b' c' h1 h2 _ _ _ _ _ _ hne => by
      cases i with
      | zero => cases j with
        | zero => exact absurd rfl hne
        | succ j => simp at h2
      | succ i => simp at h1
    grow := by rw [hw]; simp
    os := hos, tape := ht, output := hout }

theorem newA_cases {h : Hint} {ob : List Prop} {v : AV} {o : AObj} (k : AllP (newA h ob v o).obl) : AllP ob ∧ (newA h ob v o).val = v ∧ (newA h ob v o).upd = [] ∧ (newA h ob v o).new = [o] := by
  unfold newA at k ⊢
  split
  · rename_i o' ho
    rw [ho] at k
    have := allP_append.1 k
    have e : o = o' := this.2.1
    exact ⟨this.1, rfl, rfl, by rw [e]⟩
  · rename_i ho
    split at k
    · rename_i o' ho'; exact absurd ho' (ho o')
    · exact ⟨k, rfl, rfl, rfl⟩

theorem grow_cases {h : Hint} {ob : List Prop} {v : AV} {u : List AObj} {o : AObj} (k : AllP (grow h ob v u o).obl) : AllP ob ∧ (grow h ob v u o).val = v ∧ (grow h ob v u o).upd = u ∧ (grow h ob v u o).new = [o] := by
  unfold grow at k ⊢
  split
  · rename_i o' ho
    rw [ho] at k
    have := allP_append.1 k
    have e : o = o' := this.2.1
    exact ⟨this.1, rfl, rfl, by rw [e]⟩
  · rename_i ho
    split at k
    · rename_i o' ho'; exact absurd ho' (ho o')
    · exact ⟨k, rfl, rfl, rfl⟩

/-- A new row of cells that a pointer is told of. -/
theorem good_cells {k : Nat} {cs : List AV} {xs : List Value} {t : TypeId} {r : Result Next} (hk : E k = none) (hc : denC E cs xs)
    (hr : r = .ok (.value (.pointer (some ⟨w.heap.size, 0, none⟩))) { w with heap := w.heap.push (.cells xs.toArray t) }) :
    Good E w ⟨[], [], [k]⟩ [] [.cells cs t] (.ptr k 0) r :=
  ⟨_, _, E.set k (w.heap.size, 0), .inl hr, by simp [den, Env.set_same], .push rfl rfl rfl rfl hk ⟨xs, denC_mono (.set hk) hc, push_new rfl⟩ (fun e => absurd rfl e)⟩

theorem run_zeroValue {t : TypeId} {z : AV} (h : zeroA P t = some z) : ∃ x, (zeroValue t).run P w = .ok x w ∧ den E z = some x := by
  unfold zeroA at h
  simp only [Option.bind_eq_some_iff] at h
  obtain ⟨x, ⟨i, hi, hz⟩, hx⟩ := h
  exact ⟨x, by simp [zeroValue, typeInfo, hi, hz], den_ofConst _ _ _ hx⟩

theorem notTuple_cells {v : AV} {x : Value} (h : v.notTuple = true) (hd : den E v = some x) : ∃ xs, denC E v.cells xs ∧ x.cells = xs.toArray :=
  denC_cells hd (by rintro vs rfl; simp [AV.notTuple] at h)

theorem good_alloc {o : Oper} {ρ : Operand → Value} {t : TypeId} {z : AV} {k : Nat} (ho : o.op = .alloc t) (hz : zeroA P t = some z) (hn : z.notTuple = true) (hk : E k = none) :
    Good E w ⟨[], [], [k]⟩ [] [.cells z.cells t] (.ptr k 0) ((execOp ρ o).run P w) := by
  obtain ⟨x, hx, hd⟩ := run_zeroValue (w := w) (E := E) hz
  obtain ⟨xs, hc, he⟩ := notTuple_cells hn hd
  refine good_cells hk hc ?_
  simp [execOp, ho, Instr.alloc, hx, newVar, newRow, he]

theorem good_box {o : Oper} {ρ : Operand → Value} {t : TypeId} {x : Operand} {v : AV} {k : Nat} (ho : o.op = .box t x) (hv : den E v = some (ρ x)) (hn : v.notTuple = true) (hk : E k = none) :
    Good E w ⟨[], [], [k]⟩ [] [.cells v.cells t] (.ptr k 0) ((execOp ρ o).run P w) := by
  obtain ⟨xs, hc, he⟩ := notTuple_cells hn hv
  refine good_cells hk hc ?_
  simp [execOp, ho, Instr.box, newVar, newRow, he]

theorem cells_len {v : AV} {x : Value} {xs : List Value} (hc : denC E v.cells xs) (he : x.cells = xs.toArray) : x.cells.size = v.cells.length := by
  rw [he]; simp [denC_length hc]

theorem foldl_fill (off : Nat) : ∀ (cs : List Value) (j : Nat) (acc : Array Value), (cs.zipIdx j).foldl (fun cs (c, j) => cs.setIfInBounds (off + j) c) acc = (over acc.toList (off + j) cs).toArray
  | [], j, acc => by simp [over]
  | c :: cs, j, acc => by
    simp only [List.zipIdx_cons, List.foldl_cons]
    rw [foldl_fill off cs (j + 1)]
    simp [over, Nat.add_assoc]

/-- The cells of parts, put in. -/
theorem fillA_run {place : Nat → Option (Nat × Nat)} : ∀ (ps : List (Nat × AV)) (qs : List (Nat × Value)) (cs : List AV) (xs : List Value) (ob : List Prop) (c : List AV),
    denC E cs xs → fillA place cs ps = some (ob, c) → AllP ob → (ps.all fun p => p.2.notTuple) = true → qs.map (·.1) = ps.map (·.1) → denL E (ps.map (·.2)) = some (qs.map (·.2)) →
    ∃ ys, Instr.fill place xs.toArray qs = some ys.toArray ∧ denC E c ys
  | [], qs, cs, xs, ob, c, hc, hf, hob, hn, hi, hv => by
    simp at hi; subst hi
    simp only [fillA, Option.some.injEq, Prod.mk.injEq] at hf
    obtain ⟨_, rfl⟩ := hf
    exact ⟨xs, rfl, hc⟩
  | (i, v) :: ps, qs, cs, xs, ob, c, hc, hf, hob, hn, hi, hv => by
    cases qs with
    | nil => simp at hi
    | cons q qs =>
      obtain ⟨j, x⟩ := q
      simp only [List.map_cons, List.cons.injEq] at hi hv
      obtain ⟨rfl, hi⟩ := hi
      obtain ⟨hx, hv⟩ := denL_split hv
      simp only [List.all_cons, Bool.and_eq_true] at hn
      simp only [fillA] at hf
      split at hf
      · cases hf
      · rename_i off size hp
        split at hf
        · rename_i o c' hf'
          simp only [Option.some.injEq, Prod.mk.injEq] at hf
          obtain ⟨rfl, rfl⟩ := hf
          obtain ⟨h1, h2, h3⟩ := hob
          obtain ⟨vs, hvs, hve⟩ := notTuple_cells hn.1 hx
          have hl := cells_len hvs hve
          have hxl := denC_length hc
          have hvl := denC_length hvs
          have e : (over xs off vs) = xs.take off ++ vs ++ xs.drop (off + size) := by rw [over_eq _ _ _ (by omega), hvl, h1]
          have hc' : denC E (cs.take off ++ v.cells ++ cs.drop (off + size)) (over xs off vs) := by
            rw [e]; exact denC_append (denC_append (denC_take hc _) hvs) (denC_drop hc _)
          obtain ⟨ys, hy, hd⟩ := fillA_run ps qs _ _ _ _ hc' hf' h3 hn.2 hi hv
          refine ⟨ys, ?_, hd⟩
          simp only [Instr.fill, hp]
          rw [if_neg (by rw [hl]; simp; omega)]
          rw [show (x.cells.zipIdx.foldl (fun cs (c, j) => cs.setIfInBounds (off + j) c) xs.toArray) = (over xs off vs).toArray by
            rw [← Array.foldl_toList, Array.toList_zipIdx, hve]
            simpa using foldl_fill off vs 0 xs.toArray]
          exact hy
        · cases hf

theorem partsA_spec {ρ : Operand → Value} : ∀ (ps : List (Nat × Operand)) (vs : List AV), ps.length = vs.length → denL E vs = some (ps.map fun p => ρ p.2) →
    (partsA ps vs).map (·.1) = ps.map (·.1) ∧ denL E ((partsA ps vs).map (·.2)) = some (ps.map fun p => ρ p.2)
  | [], [], _, h => ⟨rfl, rfl⟩
  | [], v :: vs, h, _ => by simp at h
  | p :: ps, [], h, _ => by simp at h
  | (i, x) :: ps, v :: vs, hl, h => by
    simp only [List.map_cons] at h
    obtain ⟨h1, h2⟩ := denL_split h
    obtain ⟨a, b⟩ := partsA_spec ps vs (by simpa using hl) h2
    exact ⟨by simp [partsA, a], denL_cons.2 ⟨_, _, h1, b, rfl⟩⟩

theorem mapM_sizes {fs : Array Field} (h : fs.all (fun f => (P.info? f.type).isSome) = true) :
    (fs.mapM (fun f => do pure (f.offset, ← sizeOf f.type) : Field → Sem (Nat × Nat))).run P w = .ok (fs.map fun f => (f.offset, P.cellsOf f.type)) w := by
  obtain ⟨l⟩ := fs
  simp only [List.all_toArray] at h
  rw [List.mapM_toArray]
  have key : ∀ l : List Field, (l.all fun f => (P.info? f.type).isSome) = true →
      (l.mapM (fun f => do pure (f.offset, ← sizeOf f.type) : Field → Sem (Nat × Nat))).run P w = .ok (l.map fun f => (f.offset, P.cellsOf f.type)) w := by
    intro l hl
    induction l with
    | nil => rfl
    | cons f l ih =>
      simp only [List.all_cons, Bool.and_eq_true] at hl
      obtain ⟨i, hi⟩ := Option.isSome_iff_exists.1 hl.1
      have ih' := ih hl.2
      simp only [List.mapM_cons, Sem.run_bind, run_sizeOf' hi, Result.andThen_ok, Sem.run_pure, ih', List.map_cons]
  rw [Sem.run_map, key l h]; simp

theorem buildA_run {t : TypeId} {parts : List (Nat × AV)} {qs : List (Nat × Value)} {ob : List Prop} {c : List AV} (h : buildA P t parts = some (ob, c)) (hob : AllP ob)
    (hi : qs.map (·.1) = parts.map (·.1)) (hv : denL E (parts.map (·.2)) = some (qs.map (·.2))) :
    ∃ x, (Instr.build t qs.toArray).run P w = .ok x w ∧ den E (.agg c) = some x := by
  unfold buildA at h
  split at h
  · rename_i fs z hu hz
    split at h
    · rename_i hc
      simp only [Bool.and_eq_true] at hc
      obtain ⟨x, hx, hd⟩ := run_zeroValue (w := w) (E := E) hz
      obtain ⟨xs, hxs, hxe⟩ := notTuple_cells hc.1.1 hd
      have e : (fun i : Nat => (fs[i]?).map fun f => (f.offset, P.cellsOf f.type)) = fun i => (fs.map fun f => (f.offset, P.cellsOf f.type))[i]? := by funext i; simp
      rw [e] at h
      obtain ⟨ys, hy, hdy⟩ := fillA_run _ _ _ _ _ _ hxs h hob hc.1.2 hi hv
      refine ⟨_, ?_, denC_agg.2 ⟨ys, hdy, rfl⟩⟩
      simp only [Instr.build, Sem.run_bind, hx, Result.andThen_ok, run_underlying' hu, mapM_sizes hc.2, hxe, hy]
      rfl
    · cases h
  · rename_i n e z hu hz
    split at h
    · rename_i hc
      simp only [Bool.and_eq_true] at hc
      obtain ⟨x, hx, hd⟩ := run_zeroValue (w := w) (E := E) hz
      obtain ⟨xs, hxs, hxe⟩ := notTuple_cells hc.1.1 hd
      obtain ⟨i, hi'⟩ := Option.isSome_iff_exists.1 hc.2
      obtain ⟨ys, hy, hdy⟩ := fillA_run _ _ _ _ _ _ hxs h hob hc.1.2 hi hv
      refine ⟨_, ?_, denC_agg.2 ⟨ys, hdy, rfl⟩⟩
      simp only [Instr.build, Sem.run_bind, hx, Result.andThen_ok, run_underlying' hu, run_sizeOf' hi', hxe, hy]
      rfl
    · cases h
  · cases h

end Go.Proofs.YtpdhfopfjoinnaaDoor.Sx
