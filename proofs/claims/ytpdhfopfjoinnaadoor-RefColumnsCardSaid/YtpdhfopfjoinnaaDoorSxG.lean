/- The symbolic executor, part G: loads, stores, slice expressions, indexes: they are sound. -/
import Derived.Test.YtpdhfopfjoinnaaDoorSxF
set_option linter.unusedSimpArgs false
namespace Go.Proofs.YtpdhfopfjoinnaaDoor.Sx
open Go

variable {P : Program} {E : Env} {w : World}

theorem ObjR.windowD {b : Nat} {c : Cap} {o : AObj} (h : ObjR E w b c o) {cs : List AV} (k : o.knownD = some cs) (hz : c.z = false) :
    ∃ xs, denC E cs xs ∧ ∀ (i : Nat) x, xs[i]? = some x → w.cell? ⟨b, c.o + i, none⟩ = some x := by
  cases o with
  | flat m cs' =>
    simp only [AObj.knownD, Option.some.injEq] at k; subst k
    obtain ⟨xs, hx, _, hw⟩ := h
    exact ⟨xs, hx, (hw hz).2⟩
  | vec cs' t sz =>
    simp only [AObj.knownD, Option.some.injEq] at k; subst k
    obtain ⟨xs, ys, hx, ⟨m, hw, hm⟩, hl, ho, _⟩ := h
    refine ⟨xs, hx, fun i x hi => ?_⟩
    rw [ho, Nat.zero_add, cell_of_block hw]
    have hlt := (List.getElem?_eq_some_iff.1 hi).1
    simp only [List.getElem?_toArray, List.getElem?_append_left hlt, hi]
  | cells a b => simp [AObj.knownD] at k
  | ro a b => simp [AObj.knownD] at k
  | iter a b => simp [AObj.knownD] at k
  | dead => simp [AObj.knownD] at k
theorem slice_den {nm off l c : Nat} {x : Value} (h : den E (.slice nm off l c) = some x) : ∃ b c', E nm = some (b, c') ∧ x = .slice (some ⟨b, off, none⟩) l c := by
  simp only [den, Option.map_eq_some_iff] at h
  obtain ⟨⟨b, c'⟩, hb, rfl⟩ := h
  exact ⟨b, c', hb, rfl⟩
theorem dsl_den {nm l : Nat} {x : Value} (h : den E (.dsl nm l) = some x) : ∃ b c, E nm = some (b, c) ∧ ((c.z = true ∧ l = 0 ∧ x = .slice none 0 0) ∨ (c.z = false ∧ l ≤ c.n ∧ x = .slice (some ⟨b, c.o, none⟩) l c.n)) := by
  simp only [den, Option.bind_eq_some_iff] at h
  obtain ⟨⟨b, c⟩, hb, hq⟩ := h
  refine ⟨b, c, hb, ?_⟩
  split at hq
  · rename_i hz
    split at hq
    · rename_i h0; cases hq; exact .inl ⟨hz, h0, rfl⟩
    · cases hq
  · rename_i hz
    split at hq
    · rename_i h0; cases hq; exact .inr ⟨by simpa using hz, h0, rfl⟩
    · cases hq
theorem dptr_den {nm off : Nat} {x : Value} (h : den E (.dptr nm off) = some x) : ∃ b c, E nm = some (b, c) ∧ c.z = false ∧ x = .pointer (some ⟨b, c.o + off, none⟩) := by
  simp only [den, Option.bind_eq_some_iff] at h
  obtain ⟨⟨b, c⟩, hb, hq⟩ := h
  split at hq
  · cases hq
  · rename_i hz; cases hq; exact ⟨b, c, hb, by simpa using hz, rfl⟩
theorem vec_den {nm l : Nat} {x : Value} (h : den E (.vec nm l) = some x) : ∃ b c, E nm = some (b, c) ∧ x = .slice (some ⟨b, 0, none⟩) l c.n := by
  simp only [den, Option.bind_eq_some_iff] at h
  obtain ⟨⟨b, c'⟩, hb, hq⟩ := h
  split at hq
  · cases hq; exact ⟨b, c', hb, rfl⟩
  · cases hq
theorem vec_cap {nm l b : Nat} {c : Cap} {x : Value} (h : den E (.vec nm l) = some x) (hb : E nm = some (b, c)) : c.z = false ∧ c.o = 0 ∧ l ≤ c.n := by
  simp only [den, hb, Option.bind_some] at h
  split at h
  · assumption
  · cases h
theorem window_slice {xs : List Value} {b o0 off n : Nat} (hw : ∀ (i : Nat) x, xs[i]? = some x → w.cell? ⟨b, o0 + i, none⟩ = some x) (h0 : o0 ≤ off) (i : Nat) (x : Value)
    (h : ((xs.drop (off - o0)).take n)[i]? = some x) : w.cell? ⟨b, off + i, none⟩ = some x := by
  have h1 : xs[off - o0 + i]? = some x := by
    rw [List.getElem?_take] at h
    split at h
    · rwa [List.getElem?_drop] at h
    · cases h
  have := hw _ _ h1
  rwa [show o0 + (off - o0 + i) = off + i by omega] at this

theorem run_window_cells {xs : List Value} {b o0 off n : Nat} (hw : ∀ (i : Nat) x, xs[i]? = some x → w.cell? ⟨b, o0 + i, none⟩ = some x) (h0 : o0 ≤ off) (hl : off - o0 + n ≤ xs.length) :
    (loadCells ⟨b, off, none⟩ n).run P w = .ok ((xs.drop (off - o0)).take n).toArray w := by
  have := run_loadCells_window (P := P) (w := w) (b := b) (off := off) ((xs.drop (off - o0)).take n) (window_slice hw h0)
  rwa [show ((xs.drop (off - o0)).take n).length = n by simp; omega] at this

theorem good_loadD {o : Oper} {ρ : Operand → Value} {t : TypeId} {a : Operand} {h : Hint} {nm off : Nat} {cs : List AV} {r : Res} (ho : o.op = .load t a) (hv : den E (.dptr nm off) = some (ρ a))
    {ob : AObj} (hp : Pre E w ⟨[nm], [], []⟩ [ob]) (hkn : ob.knownD = some cs) (hr : loadD P h t off ob cs = some r) (k : AllP r.obl) : Good E w ⟨[nm], [], []⟩ r.upd r.new r.val ((execOp ρ o).run P w) := by
  obtain ⟨b, c, hb, hz, hx⟩ := dptr_den hv
  obtain ⟨b', c', hb', hob⟩ := hp.objs 0 nm _ rfl rfl
  rw [hb] at hb'; cases hb'
  obtain ⟨xs, hxs, hw⟩ := hob.windowD hkn hz
  have hlen := denC_length hxs
  unfold loadD at hr
  split at hr
  · rename_i d v hu hv'
    obtain ⟨i, hi⟩ := underlying_info hu
    have run : (execOp ρ o).run P w = ((loadVar t ⟨b, c.o + off, none⟩).run P w).andThen fun v w' => .ok (.value v) w' := by
      simp only [execOp, ho, Instr.loadAt, hx, Instr.sureAddr, Sem.run_bind, Sem.run_pure, Result.andThen_ok]
    split at hr
    · rename_i hagg
      split at hr
      · rename_i l
        cases hr
        obtain ⟨h1, h2, _⟩ := k
        have hrun := run_window_cells (P := P) (n := P.cellsOf t) (off := c.o + off) hw (by omega) (by omega)
        refine Good.pure rfl rfl (x := .agg ((xs.drop off).take (P.cellsOf t)).toArray) ?_ (denC_agg.2 ⟨_, by rw [← h2]; exact denC_take (denC_drop hxs _) _, rfl⟩)
        rw [run]
        rw [show c.o + off - c.o = off by omega] at hrun
        simp only [loadVar, Sem.run_bind, run_isAgg' hu, Result.andThen_ok, hagg, if_true, run_sizeOf' hi, hrun, Sem.run_pure]
      · cases hr
    · rename_i hagg
      cases hr
      obtain ⟨h1, _⟩ := k
      obtain ⟨x, hx1, hx2⟩ := denC_get hxs h1
      have := hw _ _ hx1
      refine Good.pure rfl rfl (x := x) ?_ hx2
      rw [run]
      simp only [loadVar, Sem.run_bind, run_isAgg' hu, Result.andThen_ok, hagg, Bool.false_eq_true, if_false, run_load, this]
  · cases hr

theorem good_load' {o : Oper} {ρ : Operand → Value} {t : TypeId} {a : Operand} {h : Hint} {nm off : Nat} {ob : AObj} {r : Res} (ho : o.op = .load t a) (hv : den E (.ptr nm off) = some (ρ a))
    (hp : ∃ b c, E nm = some (b, c) ∧ ObjR E w b c ob) (hr : loadA P h t off ob = some r) (k : AllP r.obl) : Good E w ⟨[nm], [], []⟩ r.upd r.new r.val ((execOp ρ o).run P w) := by
  obtain ⟨b, c, hb, hx⟩ := ptr_den hv
  obtain ⟨b', c', hb', hob⟩ := hp
  rw [hb] at hb'; cases hb'
  unfold loadA at hr
  split at hr
  · rename_i o0 cs d hk hu
    obtain ⟨xs, hxs, hw⟩ := hob.window hk
    obtain ⟨i, hi⟩ := underlying_info hu
    have hlen := denC_length hxs
    have run : (execOp ρ o).run P w = ((loadVar t ⟨b, off, none⟩).run P w).andThen fun v w' => .ok (.value v) w' := by
      simp only [execOp, ho, Instr.loadAt, hx, Instr.sureAddr, Sem.run_bind, Sem.run_pure, Result.andThen_ok]
    split at hr
    · rename_i hagg
      have runc : o0 ≤ off → off - o0 + P.cellsOf t ≤ cs.length → (execOp ρ o).run P w = .ok (.value (.agg ((xs.drop (off - o0)).take (P.cellsOf t)).toArray)) w := by
        intro h0 h1
        have hrun := run_window_cells (P := P) (n := P.cellsOf t) hw h0 (by omega)
        rw [run]
        simp only [loadVar, Sem.run_bind, run_isAgg' hu, Result.andThen_ok, hagg, if_true, run_sizeOf' hi, hrun, Sem.run_pure]
      split at hr
      · rename_i l hl
        cases hr
        obtain ⟨h0, h1, h2, _⟩ := k
        exact Good.pure rfl rfl (runc h0 h1) (denC_agg.2 ⟨_, by rw [← h2]; exact denC_take (denC_drop hxs _) _, rfl⟩)
      · cases hr
      · cases hr
        obtain ⟨h0, h1, _⟩ := k
        exact Good.pure rfl rfl (runc h0 h1) (denC_agg.2 ⟨_, denC_take (denC_drop hxs _) _, rfl⟩)
    · rename_i hagg
      have runc : ∀ v, o0 ≤ off → cs[off - o0]? = some v → ∃ x, (execOp ρ o).run P w = .ok (.value x) w ∧ den E v = some x := by
        intro v h0 h1
        obtain ⟨x, hx1, hx2⟩ := denC_get hxs h1
        refine ⟨x, ?_, hx2⟩
        have := hw _ _ hx1
        rw [show o0 + (off - o0) = off by omega] at this
        rw [run]
        simp only [loadVar, Sem.run_bind, run_isAgg' hu, Result.andThen_ok, hagg, Bool.false_eq_true, if_false, run_load, this]
      split at hr
      · rename_i v hv'
        cases hr
        obtain ⟨h0, h1, _⟩ := k
        obtain ⟨x, e1, e2⟩ := runc v h0 h1
        exact Good.pure rfl rfl e1 e2
      · split at hr
        · rename_i v hv'
          cases hr
          obtain ⟨h0, _⟩ := k
          obtain ⟨x, e1, e2⟩ := runc v h0 hv'
          exact Good.pure rfl rfl e1 e2
        · cases hr
  · cases hr

theorem good_load {o : Oper} {ρ : Operand → Value} {t : TypeId} {a : Operand} {h : Hint} {nm off : Nat} {ob : AObj} {r : Res} (ho : o.op = .load t a) (hv : den E (.ptr nm off) = some (ρ a))
    (hp : Pre E w ⟨[nm], [], []⟩ [ob]) (hr : loadA P h t off ob = some r) (k : AllP r.obl) : Good E w ⟨[nm], [], []⟩ r.upd r.new r.val ((execOp ρ o).run P w) := good_load' ho hv (hp.objs 0 nm ob rfl rfl) hr k

/-- Out of a table of the program. -/
theorem good_loadG {o : Oper} {ρ : Operand → Value} {t : TypeId} {a : Operand} {h : Hint} {g off : Nat} {l : List (IntKind × Int)} {r : Res} (ho : o.op = .load t a) (hx : ρ a = .pointer (some ⟨g, off, none⟩))
    (g3 : ∀ (i : Nat) x, (gvals l)[i]? = some x → w.cell? ⟨g, i, none⟩ = some x) (hr : loadA P h t off (.ro 0 (gcells l)) = some r) (k : AllP r.obl) : Good E w .no [] [] r.val ((execOp ρ o).run P w) := by
  unfold loadA at hr
  split at hr
  · rename_i o0 cs d hk hu
    simp only [AObj.known, Option.some.injEq, Prod.mk.injEq] at hk
    obtain ⟨rfl, rfl⟩ := hk
    have hxs := denC_gcells E l
    have hw : ∀ (i : Nat) x, (gvals l)[i]? = some x → w.cell? ⟨g, 0 + i, none⟩ = some x := fun i x hi => by rw [Nat.zero_add]; exact g3 i x hi
    obtain ⟨i, hi⟩ := underlying_info hu
    have hlen := denC_length hxs
    have run : (execOp ρ o).run P w = ((loadVar t ⟨g, off, none⟩).run P w).andThen fun v w' => .ok (.value v) w' := by
      simp only [execOp, ho, Instr.loadAt, hx, Instr.sureAddr, Sem.run_bind, Sem.run_pure, Result.andThen_ok]
    split at hr
    · rename_i hagg
      have runc : 0 ≤ off → off - 0 + P.cellsOf t ≤ (gcells l).length → (execOp ρ o).run P w = .ok (.value (.agg (((gvals l).drop (off - 0)).take (P.cellsOf t)).toArray)) w := by
        intro h0 h1
        have hrun := run_window_cells (P := P) (n := P.cellsOf t) hw h0 (by omega)
        rw [run]
        simp only [loadVar, Sem.run_bind, run_isAgg' hu, Result.andThen_ok, hagg, if_true, run_sizeOf' hi, hrun, Sem.run_pure]
      split at hr
      · rename_i l hl
        cases hr
        obtain ⟨h0, h1, h2, _⟩ := k
        exact Good.pure rfl rfl (runc h0 h1) (denC_agg.2 ⟨_, by rw [← h2]; exact denC_take (denC_drop hxs _) _, rfl⟩)
      · cases hr
      · cases hr
        obtain ⟨h0, h1, _⟩ := k
        exact Good.pure rfl rfl (runc h0 h1) (denC_agg.2 ⟨_, denC_take (denC_drop hxs _) _, rfl⟩)
    · rename_i hagg
      have runc : ∀ v, 0 ≤ off → (gcells l)[off - 0]? = some v → ∃ x, (execOp ρ o).run P w = .ok (.value x) w ∧ den E v = some x := by
        intro v h0 h1
        obtain ⟨x, hx1, hx2⟩ := denC_get hxs h1
        refine ⟨x, ?_, hx2⟩
        have := hw _ _ hx1
        rw [show 0 + (off - 0) = off by omega] at this
        rw [run]
        simp only [loadVar, Sem.run_bind, run_isAgg' hu, Result.andThen_ok, hagg, Bool.false_eq_true, if_false, run_load, this]
      split at hr
      · rename_i v hv'
        cases hr
        obtain ⟨h0, h1, _⟩ := k
        obtain ⟨x, e1, e2⟩ := runc v h0 h1
        exact Good.pure rfl rfl e1 e2
      · split at hr
        · rename_i v hv'
          cases hr
          obtain ⟨h0, _⟩ := k
          obtain ⟨x, e1, e2⟩ := runc v h0 hv'
          exact Good.pure rfl rfl e1 e2
        · cases hr
  · cases hr

theorem over_append {xs ys vs : List Value} {off : Nat} (h : off + vs.length ≤ xs.length) : over (xs ++ ys) off vs = over xs off vs ++ ys := by
  rw [over_eq _ _ _ (by simp; omega), over_eq _ _ _ h, List.take_append_of_le_length (by omega), List.drop_append_of_le_length (by omega)]
  simp

theorem over_length : ∀ (vs xs : List Value) (off : Nat), (over xs off vs).length = xs.length
  | [], xs, off => rfl
  | v :: vs, xs, off => by simp [over, over_length vs]

/-- A row written: the same block, with other cells. -/
theorem run_storeVar_obj {t : TypeId} {i : TypeInfo} {b off : Nat} {c : Cap} {v : AV} {x : Value} {o o1 : AObj} {off' : Nat} {cs : List AV} (hi : P.info? t = some i) (hn : v.notTuple = true) (hd : den E v = some x)
    (hb : ObjR E w b c o) (hk : o.known = some (off', cs)) (hs : o.setCells (cs.take off ++ v.cells ++ cs.drop (off + P.cellsOf t)) = some o1) (h1 : v.cells.length = P.cellsOf t) (h2 : off + P.cellsOf t ≤ cs.length) :
    ∃ w', (storeVar t ⟨b, off, none⟩ x).run P w = .ok () w' ∧ ObjR E w' b c o1 ∧ Upd b w w' := by
  obtain ⟨vs, hvs, hve⟩ := notTuple_cells hn hd
  have hvl := denC_length hvs
  have hsz : x.cells.size = P.cellsOf t := by rw [cells_len hvs hve, h1]
  have run : (storeVar t ⟨b, off, none⟩ x).run P w = (storeCells ⟨b, off, none⟩ vs).run P w := by
    simp [storeVar, run_sizeOf' hi, hve, hvl, h1]
  rw [run]
  cases o with
  | cells cs' ty =>
    simp only [AObj.known, Option.some.injEq, Prod.mk.injEq] at hk; obtain ⟨_, rfl⟩ := hk
    simp only [AObj.setCells, Option.some.injEq] at hs; subst hs
    obtain ⟨xs, hx, hw⟩ := hb
    have hl := denC_length hx
    obtain ⟨w', hr, hw', hu⟩ := run_storeCells (P := P) vs xs off 0 w hw (.inl rfl) (by omega) hvs.2
    refine ⟨w', hr, ⟨_, ?_, hw'⟩, hu⟩
    rw [Nat.add_zero, over_eq _ _ _ (by omega), hvl, h1]
    exact denC_append (denC_append (denC_take hx _) hvs) (denC_drop hx _)
  | vec cs' ty sz =>
    simp only [AObj.known, Option.some.injEq, Prod.mk.injEq] at hk; obtain ⟨_, rfl⟩ := hk
    simp only [AObj.setCells, Option.some.injEq] at hs; subst hs
    obtain ⟨xs, ys, hx, ⟨m, hw, hm⟩, hsp, hoz⟩ := hb
    have hl := denC_length hx
    obtain ⟨w', hr, hw', hu⟩ := run_storeCells (P := P) vs (xs ++ ys) off 0 w hw hm (by simp; omega) hvs.2
    rw [Nat.add_zero, over_append (by omega)] at hw'
    refine ⟨w', hr, ⟨_, ys, ?_, ⟨m, hw', by simpa [over_length] using hm⟩, ?_, hoz⟩, hu⟩
    · rw [over_eq _ _ _ (by omega), hvl, h1]
      exact denC_append (denC_append (denC_take hx _) hvs) (denC_drop hx _)
    · rw [← hsp]; simp [over_length]
  | ro a b => simp [AObj.setCells] at hs
  | flat m a => simp [AObj.setCells] at hs
  | iter a b => simp [AObj.setCells] at hs
  | dead => simp [AObj.setCells] at hs

theorem Eff.write {nm b : Nat} {c : Cap} {w' : World} {o1 : AObj} (hb : E nm = some (b, c)) (ho : ObjR E w' b c o1) (hu : Upd b w w') : Eff E E w w' ⟨[nm], [nm], []⟩ [o1] [] :=
  { le := .refl _, only := fun _ _ => rfl
    wrote := fun _ i n o h1 h2 => by
      cases i with
      | zero => simp at h1 h2; subst h1; subst h2; exact ⟨b, c, hb, ho⟩
      | succ i => simp at h1
    made := fun i n o h1 => by simp at h1
    keep := fun k hk hne => hu.keep k (by rintro rfl; exact hne nm (by simp) c hb)
    newApart := fun i j n m o1 o2 b c b' c' h1 => by simp at h1
    grow := by rw [hu.size]; exact Nat.le_refl _
    os := hu.os, tape := hu.tape, output := hu.output }

theorem good_store {o : Oper} {ρ : Operand → Value} {t : TypeId} {a x : Operand} {h : Hint} {nm off : Nat} {v : AV} {ob : AObj} {r : Res} (ho : o.op = .store t a x) (hv : den E (.ptr nm off) = some (ρ a)) (hx : den E v = some (ρ x))
    (hp : Pre E w ⟨[nm], [nm], []⟩ [ob]) (hr : storeA P h t off v ob = some r) (k : AllP r.obl) : Good E w ⟨[nm], [nm], []⟩ r.upd r.new r.val ((execOp ρ o).run P w) := by
  obtain ⟨b, c, hb, hpx⟩ := ptr_den hv
  obtain ⟨b', c', hb', hob⟩ := hp.objs 0 nm ob rfl rfl
  rw [hb] at hb'; cases hb'
  unfold storeA at hr
  split at hr
  · cases hr
  · rename_i hc
    simp only [Bool.or_eq_true, Bool.not_eq_true', not_or, Bool.not_eq_false, Option.isNone_iff_eq_none] at hc
    obtain ⟨hn, hi⟩ := hc
    obtain ⟨i, hi⟩ := Option.ne_none_iff_exists'.1 hi
    have run : ∀ w', (storeVar t ⟨b, off, none⟩ (ρ x)).run P w = .ok () w' → (execOp ρ o).run P w = .ok .skip w' := by
      intro w' hw'
      simp only [execOp, ho, Instr.storeAt, hpx, Instr.sureAddr, Sem.run_bind, Sem.run_pure, Result.andThen_ok, hw']
    split at hr
    · rename_i o0 cs hk
      simp only at hr
      split at hr
      · rename_i o' hobj
        split at hr
        · rename_i o1 hs
          cases hr
          obtain ⟨h1, h2, h3, _⟩ := k
          subst h3
          obtain ⟨w', hr', ho', hu⟩ := run_storeVar_obj hi hn hx hob hk hs h1 h2
          exact ⟨undef, w', E, .inr ⟨run w' hr', rfl⟩, rfl, .write hb ho' hu⟩
        · cases hr
      · split at hr
        · rename_i o1 hs
          cases hr
          obtain ⟨h1, h2, _⟩ := k
          obtain ⟨w', hr', ho', hu⟩ := run_storeVar_obj hi hn hx hob hk hs h1 h2
          exact ⟨undef, w', E, .inr ⟨run w' hr', rfl⟩, rfl, .write hb ho' hu⟩
        · cases hr
    · cases hr

theorem boundA_run {d y : Nat} {lo : Option Operand} {vs rest : List AV} {xs : List Value} {ρ : Operand → Value} {ob : List Prop} {n : Nat} {code : BoundsCode} (h : boundA d lo vs = some (ob, n, rest)) (hv : denL E vs = some (lo.toArray.toList.map ρ ++ xs)) (hob : AllP ob) :
    denL E rest = some xs ∧ ((lo = none ∧ n = d) ∨ (∃ p, lo = some p ∧ (n ≤ y → (Instr.sliceBound (ρ p) y code).run P w = .ok n w))) := by
  unfold boundA at h
  split at h
  · cases h; exact ⟨by simpa using hv, .inl ⟨rfl, rfl⟩⟩
  · rename_i p k i vs'
    cases h
    simp only [Option.toArray_some, List.map_cons, List.map_nil, List.singleton_append, List.cons_append, List.nil_append] at hv
    obtain ⟨h1, h2⟩ := denL_split hv
    refine ⟨h2, .inr ⟨p, rfl, fun hle => ?_⟩⟩
    have e' : ρ p = .int k i := by simpa [den] using h1.symm
    have h0 := hob.1
    rw [e']
    simp [Instr.sliceBound, asIntOf, show 0 ≤ i ∧ i ≤ (y : Int) by omega]
  · cases h

theorem boundsA_run {isSlice : Bool} {len cap : Nat} {lo hi mx : Option Operand} {vs : List AV} {ρ : Operand → Value} {ob : List Prop} {l u m : Nat} (h : boundsA len cap lo hi mx vs = some (ob, l, u, m))
    (hv : denL E vs = some ((lo.toArray ++ hi.toArray ++ mx.toArray).toList.map ρ)) (hob : AllP ob) (hm : mx.isSome → hi.isSome) :
    (Instr.sliceBounds isSlice len cap (lo.map ρ) (hi.map ρ) (mx.map ρ)).run P w = .ok (l, u, m) w ∧ l ≤ u ∧ u ≤ m ∧ m ≤ cap := by
  unfold boundsA at h
  split at h
  · rename_i o1 l' vs1 h1
    split at h
    · rename_i o2 u' vs2 h2
      split at h
      · rename_i o3 m' h3
        cases h
        obtain ⟨hob12, hl, hu, hmc, _⟩ := allP_append.1 hob |>.imp id id
        obtain ⟨hob12', hob3⟩ := allP_append.1 hob12
        obtain ⟨hob1, hob2⟩ := allP_append.1 hob12'
        simp only [Array.toList_append, List.map_append, List.append_assoc] at hv
        obtain ⟨d1, r1⟩ := boundA_run (P := P) (w := w) (y := u) (code := if mx.isSome then .slice3C else .sliceB) h1 hv hob1
        obtain ⟨d2, r2⟩ := boundA_run (P := P) (w := w) (y := m) (code := if mx.isSome then .slice3B else if isSlice then .sliceAcap else .sliceAlen) h2 d1 hob2
        obtain ⟨d3, r3⟩ := boundA_run (P := P) (w := w) (y := cap) (xs := []) (code := if isSlice then .slice3Acap else .slice3Alen) h3 (by simpa using d2) hob3
        refine ⟨?_, hl, hu, hmc⟩
        rcases r3 with ⟨e3, n3⟩ | ⟨p3, e3, n3⟩
        · subst e3; subst n3
          rcases r2 with ⟨e2, n2⟩ | ⟨p2, e2, n2⟩
          · subst e2; subst n2
            rcases r1 with ⟨e1, n1⟩ | ⟨p1, e1, n1⟩
            · subst e1; subst n1; simp [Instr.sliceBounds]
            · subst e1; have := n1 hl; simp at this; simp [Instr.sliceBounds, this]
          · subst e2; have t2 := n2 hu; simp at t2
            rcases r1 with ⟨e1, n1⟩ | ⟨p1, e1, n1⟩
            · subst e1; subst n1; cases isSlice <;> simp at t2 <;> simp [Instr.sliceBounds, t2]
            · subst e1; have := n1 hl; simp at this; cases isSlice <;> simp at t2 <;> simp [Instr.sliceBounds, this, t2]
        · subst e3; have t3 := n3 hmc
          rcases r2 with ⟨e2, n2⟩ | ⟨p2, e2, n2⟩
          · subst e2; exact absurd (hm rfl) (by simp)
          · subst e2; have t2 := n2 hu; simp at t2
            rcases r1 with ⟨e1, n1⟩ | ⟨p1, e1, n1⟩
            · subst e1; subst n1; cases isSlice <;> simp at t3 <;> simp [Instr.sliceBounds, t2, t3]
            · subst e1; have := n1 hl; simp at this; cases isSlice <;> simp at t3 <;> simp [Instr.sliceBounds, this, t2, t3]
      · cases h
    · cases h
  · cases h

end Go.Proofs.YtpdhfopfjoinnaaDoor.Sx
