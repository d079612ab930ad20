import Derived.Test.YtphhepnldndbhaaGreatDoorGr00
import Derived.Laws.Runes
import Derived.Lib.ConvBytes
import Derived.Laws.BytesString
set_option linter.unusedSimpArgs false
namespace Go.Proofs.YtphhepnldndbhaaGreatDoor.Sx
open Go
variable {P : Program} {E : Env} {w : World}
theorem ObjR.windowD {b : Nat} {c : Cap} {o : AObj} (h : ObjR E w b c o) {cs : List AV} (k : o.knownD = some cs) (hz : c.z = false) :
    ∃ xs, denC E cs xs ∧ ∀ (i : Nat) x, xs[i]? = some x → w.cell? ⟨b, c.o + i, none⟩ = some x := by
  cases o with
  | flat m cs' =>
    simp only [AObj.knownD, Option.some.injEq] at k; subst k
    obtain ⟨xs, hx, _, hw⟩ := h
    exact ⟨xs, hx, (hw hz).2⟩
  | vec cs' t sz =>
    simp only [AObj.knownD, Option.some.injEq] at k; subst k
    obtain ⟨xs, ys, hx, ⟨m, hw, hm⟩, hl, ho, _⟩ := h
    refine ⟨xs, hx, fun i x hi => ?_⟩
    rw [ho, Nat.zero_add, cell_of_block hw]
    have hlt := (List.getElem?_eq_some_iff.1 hi).1
    simp only [List.getElem?_toArray, List.getElem?_append_left hlt, hi]
  | cells a b => simp [AObj.knownD] at k
  | ro a b => simp [AObj.knownD] at k
  | iter a b => simp [AObj.knownD] at k
  | shut a b c => simp [AObj.knownD] at k
  | flatR m sh rows => simp [AObj.knownD] at k
  | flatN sh rows => simp [AObj.knownD] at k
  | mapS n ks => simp [AObj.knownD] at k
  | loopR up n ix cs ps asg body => simp [AObj.knownD] at k
  | dead => simp [AObj.knownD] at k
theorem slice_den {nm off l c : Nat} {x : Value} (h : den E (.slice nm off l c) = some x) : ∃ b c', E nm = some (b, c') ∧ x = .slice (some ⟨b, off, none⟩) l c := by
  simp only [den, Option.map_eq_some_iff] at h
  obtain ⟨⟨b, c'⟩, hb, rfl⟩ := h
  exact ⟨b, c', hb, rfl⟩
theorem dsl_den {nm l : Nat} {x : Value} (h : den E (.dsl nm l) = some x) : ∃ b c, E nm = some (b, c) ∧ ((c.z = true ∧ l = 0 ∧ x = .slice c.a 0 0) ∨ (c.z = false ∧ l ≤ c.n ∧ x = .slice (some ⟨b, c.o, none⟩) l c.n)) := by
  simp only [den, Option.bind_eq_some_iff] at h
  obtain ⟨⟨b, c⟩, hb, hq⟩ := h
  refine ⟨b, c, hb, ?_⟩
  split at hq
  · rename_i hz
    split at hq
    · rename_i h0; cases hq; exact .inl ⟨hz, h0, rfl⟩
    · cases hq
  · rename_i hz
    split at hq
    · rename_i h0; cases hq; exact .inr ⟨by simpa using hz, h0, rfl⟩
    · cases hq
theorem dptr_den {nm off : Nat} {x : Value} (h : den E (.dptr nm off) = some x) : ∃ b c, E nm = some (b, c) ∧ c.z = false ∧ x = .pointer (some ⟨b, c.o + off, none⟩) := by
  simp only [den, Option.bind_eq_some_iff] at h
  obtain ⟨⟨b, c⟩, hb, hq⟩ := h
  split at hq
  · cases hq
  · rename_i hz; cases hq; exact ⟨b, c, hb, by simpa using hz, rfl⟩
theorem rptr_den {nm w' i j : Nat} {x : Value} (h : den E (.rptr nm w' i j) = some x) : ∃ b c, E nm = some (b, c) ∧ c.z = false ∧ x = .pointer (some ⟨b, c.o + (i * w' + j), none⟩) := dptr_den (off := i * w' + j) h
theorem vec_den {nm l : Nat} {x : Value} (h : den E (.vec nm l) = some x) : ∃ b c, E nm = some (b, c) ∧ x = .slice (some ⟨b, 0, none⟩) l c.n := by
  simp only [den, Option.bind_eq_some_iff] at h
  obtain ⟨⟨b, c'⟩, hb, hq⟩ := h
  split at hq
  · cases hq; exact ⟨b, c', hb, rfl⟩
  · cases hq
theorem vsl_den {nm w' off l : Nat} {x : Value} (h : den E (.vsl nm w' off l) = some x) : ∃ b c, E nm = some (b, c) ∧ c.z = false ∧ off + l ≤ c.n ∧ x = .slice (some ⟨b, c.o + (if off = c.n then 0 else off * w'), none⟩) l (c.n - off) := by
  simp only [den, Option.bind_eq_some_iff] at h
  obtain ⟨⟨b, c'⟩, hb, hq⟩ := h
  split at hq
  · rename_i hc; cases hq; exact ⟨b, c', hb, hc.1, hc.2, rfl⟩
  · cases hq
theorem vec_cap {nm l b : Nat} {c : Cap} {x : Value} (h : den E (.vec nm l) = some x) (hb : E nm = some (b, c)) : c.z = false ∧ c.o = 0 ∧ l ≤ c.n := by
  simp only [den, hb, Option.bind_some] at h
  split at h
  · assumption
  · cases h
theorem window_slice {xs : List Value} {b o0 off n : Nat} (hw : ∀ (i : Nat) x, xs[i]? = some x → w.cell? ⟨b, o0 + i, none⟩ = some x) (h0 : o0 ≤ off) (i : Nat) (x : Value)
    (h : ((xs.drop (off - o0)).take n)[i]? = some x) : w.cell? ⟨b, off + i, none⟩ = some x := by
  have h1 : xs[off - o0 + i]? = some x := by
    rw [List.getElem?_take] at h
    split at h
    · rwa [List.getElem?_drop] at h
    · cases h
  have := hw _ _ h1
  rwa [show o0 + (off - o0 + i) = off + i by omega] at this
theorem run_window_cells {xs : List Value} {b o0 off n : Nat} (hw : ∀ (i : Nat) x, xs[i]? = some x → w.cell? ⟨b, o0 + i, none⟩ = some x) (h0 : o0 ≤ off) (hl : off - o0 + n ≤ xs.length) :
    (loadCells ⟨b, off, none⟩ n).run P w = .ok ((xs.drop (off - o0)).take n).toArray w := by
  have := run_loadCells_window (P := P) (w := w) (b := b) (off := off) ((xs.drop (off - o0)).take n) (window_slice hw h0)
  rwa [show ((xs.drop (off - o0)).take n).length = n by simp; omega] at this
theorem good_loadD {o : Oper} {ρ : Operand → Value} {t : TypeId} {a : Operand} {h : Hint} {nm off : Nat} {cs : List AV} {r : Res} (ho : o.op = .load t a) (hv : den E (.dptr nm off) = some (ρ a))
    {ob : AObj} (hp : Pre E w ⟨[nm], [], []⟩ [ob]) (hkn : ob.knownD = some cs) (hr : loadD P h t off ob cs = some r) (k : AllP r.obl) : Good E w ⟨[nm], [], []⟩ r.upd r.new r.val ((execOp ρ o).run P w) := by
  obtain ⟨b, c, hb, hz, hx⟩ := dptr_den hv
  obtain ⟨b', c', hb', hob⟩ := hp.objs 0 nm _ rfl rfl
  rw [hb] at hb'; cases hb'
  obtain ⟨xs, hxs, hw⟩ := hob.windowD hkn hz
  have hlen := qxu hxs
  unfold loadD at hr
  split at hr
  · rename_i d v hu hv'
    obtain ⟨i, hi⟩ := underlying_info hu
    have run : (execOp ρ o).run P w = ((loadVar t ⟨b, c.o + off, none⟩).run P w).andThen fun v w' => .ok (.value v) w' := by
      simp only [execOp, ho, Instr.loadAt, hx, Instr.sureAddr, Sem.run_bind, Sem.run_pure, Result.andThen_ok]
    split at hr
    · rename_i hagg
      split at hr
      · rename_i l
        cases hr
        obtain ⟨h1, h2, _⟩ := k
        have hrun := run_window_cells (P := P) (n := P.cellsOf t) (off := c.o + off) hw (by omega) (by omega)
        refine Good.pure rfl rfl (x := .agg ((xs.drop off).take (P.cellsOf t)).toArray) ?_ (denC_agg.2 ⟨_, by rw [← h2]; exact denC_take (denC_drop hxs _) _, rfl⟩)
        rw [run]
        rw [show c.o + off - c.o = off by omega] at hrun
        simp only [loadVar, Sem.run_bind, run_isAgg' hu, Result.andThen_ok, hagg, if_true, run_sizeOf' hi, hrun, Sem.run_pure]
      · cases hr
    · rename_i hagg
      cases hr
      obtain ⟨h1, _⟩ := k
      obtain ⟨x, hx1, hx2⟩ := denC_get hxs h1
      have := hw _ _ hx1
      refine Good.pure rfl rfl (x := x) ?_ hx2
      rw [run]
      simp only [loadVar, Sem.run_bind, run_isAgg' hu, Result.andThen_ok, hagg, Bool.false_eq_true, if_false, run_load, this]
  · cases hr
theorem good_load' {o : Oper} {ρ : Operand → Value} {t : TypeId} {a : Operand} {h : Hint} {nm off : Nat} {ob : AObj} {r : Res} (ho : o.op = .load t a) (hv : den E (.ptr nm off) = some (ρ a))
    (hp : ∃ b c, E nm = some (b, c) ∧ ObjR E w b c ob) (hr : loadA P h t off ob = some r) (k : AllP r.obl) : Good E w ⟨[nm], [], []⟩ r.upd r.new r.val ((execOp ρ o).run P w) := by
  obtain ⟨b, c, hb, hx⟩ := ptr_den hv
  obtain ⟨b', c', hb', hob⟩ := hp
  rw [hb] at hb'; cases hb'
  unfold loadA at hr
  split at hr
  · rename_i o0 cs d hk hu
    obtain ⟨xs, hxs, hw⟩ := hob.window hk
    obtain ⟨i, hi⟩ := underlying_info hu
    have hlen := qxu hxs
    have run : (execOp ρ o).run P w = ((loadVar t ⟨b, off, none⟩).run P w).andThen fun v w' => .ok (.value v) w' := by
      simp only [execOp, ho, Instr.loadAt, hx, Instr.sureAddr, Sem.run_bind, Sem.run_pure, Result.andThen_ok]
    split at hr
    · rename_i hagg
      have runc : o0 ≤ off → off - o0 + P.cellsOf t ≤ cs.length → (execOp ρ o).run P w = .ok (.value (.agg ((xs.drop (off - o0)).take (P.cellsOf t)).toArray)) w := by
        intro h0 h1
        have hrun := run_window_cells (P := P) (n := P.cellsOf t) hw h0 (by omega)
        rw [run]
        simp only [loadVar, Sem.run_bind, run_isAgg' hu, Result.andThen_ok, hagg, if_true, run_sizeOf' hi, hrun, Sem.run_pure]
      split at hr
      · rename_i l hl
        cases hr
        obtain ⟨h0, h1, h2, _⟩ := k
        exact Good.pure rfl rfl (runc h0 h1) (denC_agg.2 ⟨_, by rw [← h2]; exact denC_take (denC_drop hxs _) _, rfl⟩)
      · cases hr
      · cases hr
        obtain ⟨h0, h1, _⟩ := k
        exact Good.pure rfl rfl (runc h0 h1) (denC_agg.2 ⟨_, denC_take (denC_drop hxs _) _, rfl⟩)
    · rename_i hagg
      have runc : ∀ v, o0 ≤ off → cs[off - o0]? = some v → ∃ x, (execOp ρ o).run P w = .ok (.value x) w ∧ den E v = some x := by
        intro v h0 h1
        obtain ⟨x, hx1, hx2⟩ := denC_get hxs h1
        refine ⟨x, ?_, hx2⟩
        have := hw _ _ hx1
        rw [show o0 + (off - o0) = off by omega] at this
        rw [run]
        simp only [loadVar, Sem.run_bind, run_isAgg' hu, Result.andThen_ok, hagg, Bool.false_eq_true, if_false, run_load, this]
      split at hr
      · rename_i v hv'
        cases hr
        obtain ⟨h0, h1, _⟩ := k
        obtain ⟨x, e1, e2⟩ := runc v h0 h1
        exact Good.pure rfl rfl e1 e2
      · split at hr
        · rename_i v hv'
          cases hr
          obtain ⟨h0, _⟩ := k
          obtain ⟨x, e1, e2⟩ := runc v h0 hv'
          exact Good.pure rfl rfl e1 e2
        · cases hr
  · cases hr
theorem good_load {o : Oper} {ρ : Operand → Value} {t : TypeId} {a : Operand} {h : Hint} {nm off : Nat} {ob : AObj} {r : Res} (ho : o.op = .load t a) (hv : den E (.ptr nm off) = some (ρ a))
    (hp : Pre E w ⟨[nm], [], []⟩ [ob]) (hr : loadA P h t off ob = some r) (k : AllP r.obl) : Good E w ⟨[nm], [], []⟩ r.upd r.new r.val ((execOp ρ o).run P w) := good_load' ho hv (hp.objs 0 nm ob rfl rfl) hr k
theorem good_loadG {o : Oper} {ρ : Operand → Value} {t : TypeId} {a : Operand} {h : Hint} {g off : Nat} {cl : List AV} {vl : List Value} {r : Res} (ho : o.op = .load t a) (hxs : denC E cl vl) (hx : ρ a = .pointer (some ⟨g, off, none⟩))
    (g3 : ∀ (i : Nat) x, vl[i]? = some x → w.cell? ⟨g, i, none⟩ = some x) (hr : loadA P h t off (.ro 0 cl) = some r) (k : AllP r.obl) : Good E w .no [] [] r.val ((execOp ρ o).run P w) := by
  unfold loadA at hr
  split at hr
  · rename_i o0 cs d hk hu
    simp only [AObj.known, Option.some.injEq, Prod.mk.injEq] at hk
    obtain ⟨rfl, rfl⟩ := hk
    have hw : ∀ (i : Nat) x, vl[i]? = some x → w.cell? ⟨g, 0 + i, none⟩ = some x := fun i x hi => by rw [Nat.zero_add]; exact g3 i x hi
    obtain ⟨i, hi⟩ := underlying_info hu
    have hlen := qxu hxs
    have run : (execOp ρ o).run P w = ((loadVar t ⟨g, off, none⟩).run P w).andThen fun v w' => .ok (.value v) w' := by
      simp only [execOp, ho, Instr.loadAt, hx, Instr.sureAddr, Sem.run_bind, Sem.run_pure, Result.andThen_ok]
    split at hr
    · rename_i hagg
      have runc : 0 ≤ off → off - 0 + P.cellsOf t ≤ cl.length → (execOp ρ o).run P w = .ok (.value (.agg ((vl.drop (off - 0)).take (P.cellsOf t)).toArray)) w := by
        intro h0 h1
        have hrun := run_window_cells (P := P) (n := P.cellsOf t) hw h0 (by omega)
        rw [run]
        simp only [loadVar, Sem.run_bind, run_isAgg' hu, Result.andThen_ok, hagg, if_true, run_sizeOf' hi, hrun, Sem.run_pure]
      split at hr
      · rename_i l hl
        cases hr
        obtain ⟨h0, h1, h2, _⟩ := k
        exact Good.pure rfl rfl (runc h0 h1) (denC_agg.2 ⟨_, by rw [← h2]; exact denC_take (denC_drop hxs _) _, rfl⟩)
      · cases hr
      · cases hr
        obtain ⟨h0, h1, _⟩ := k
        exact Good.pure rfl rfl (runc h0 h1) (denC_agg.2 ⟨_, denC_take (denC_drop hxs _) _, rfl⟩)
    · rename_i hagg
      have runc : ∀ v, 0 ≤ off → cl[off - 0]? = some v → ∃ x, (execOp ρ o).run P w = .ok (.value x) w ∧ den E v = some x := by
        intro v h0 h1
        obtain ⟨x, hx1, hx2⟩ := denC_get hxs h1
        refine ⟨x, ?_, hx2⟩
        have := hw _ _ hx1
        rw [show 0 + (off - 0) = off by omega] at this
        rw [run]
        simp only [loadVar, Sem.run_bind, run_isAgg' hu, Result.andThen_ok, hagg, Bool.false_eq_true, if_false, run_load, this]
      split at hr
      · rename_i v hv'
        cases hr
        obtain ⟨h0, h1, _⟩ := k
        obtain ⟨x, e1, e2⟩ := runc v h0 h1
        exact Good.pure rfl rfl e1 e2
      · split at hr
        · rename_i v hv'
          cases hr
          obtain ⟨h0, _⟩ := k
          obtain ⟨x, e1, e2⟩ := runc v h0 hv'
          exact Good.pure rfl rfl e1 e2
        · cases hr
  · cases hr
theorem good_loadR {o : Oper} {ρ : Operand → Value} {t : TypeId} {a : Operand} {nm w' i j : Nat} {m : Bool} {sh : List CK} {rows : List (List CV)} {r : Res} (ho : o.op = .load t a) (hv : den E (.rptr nm w' i j) = some (ρ a))
    (hp : Pre E w ⟨[nm], [], []⟩ [.flatR m sh rows]) (hr : loadR P t w' i j sh rows = some r) (k : AllP r.obl) : Good E w ⟨[nm], [], []⟩ r.upd r.new r.val ((execOp ρ o).run P w) := by
  obtain ⟨b, c, hb, hz, hx⟩ := rptr_den hv
  obtain ⟨b', c', hb', _, hob⟩ := hp.objs 0 nm _ rfl rfl
  rw [hb] at hb'; cases hb'
  unfold loadR at hr
  split at hr
  · rename_i hg
    split at hr
    · rename_i hall
      cases hr
      obtain ⟨h1, h2, h3, _⟩ := k
      have h2 : w' = sh.length := h2
      subst h2
      have h3 : j + P.cellsOf t ≤ sh.length := h3
      have hd : ∃ d, P.underlying t = some d ∧ isAggD d = true := by
        unfold aggT at hg
        split at hg
        · rename_i d hu; exact ⟨d, hu, hg⟩
        · cases hg
      obtain ⟨d, hu, hagg⟩ := hd
      have hall := List.all_eq_true.1 hall
      let g : Nat → Value := fun q => (cellV (sh.getD (j + q) .any) (rowCV (rowAt rows i) (j + q))).getD undef
      have hgv : ∀ q, q < P.cellsOf t → cellV (sh.getD (j + q) .any) (rowCV (rowAt rows i) (j + q)) = some (g q) := fun q hq => by
        obtain ⟨v, hv⟩ := Option.isSome_iff_exists.1 (hall q (List.mem_range.2 hq))
        simp only [g, hv, Option.getD_some]
      have cden : ∀ (k : CK) (c : CV) (v : Value), cellV k c = some v → den E (cellA k c) = some v ∧ v.oneCell' = true := fun k c v h => by
        cases k <;> simp [cellV] at h <;> subst h <;> exact ⟨rfl, rfl⟩
      let xs : List Value := (List.range (P.cellsOf t)).map g
      have hget : ∀ (q : Nat) (x : Value), xs[q]? = some x → w.cell? ⟨b, c.o + (i * sh.length + j) + q, none⟩ = some x := fun q x hq => by
        simp only [xs, List.getElem?_map, Option.map_eq_some_iff] at hq
        obtain ⟨q', hq', rfl⟩ := hq
        obtain ⟨hlt, hq'⟩ := List.getElem?_eq_some_iff.1 hq'
        simp only [List.getElem_range] at hq'
        subst hq'
        simp only [List.length_range] at hlt
        rw [show c.o + (i * sh.length + j) + q = c.o + (i * sh.length + (j + q)) by omega]
        exact (hob hz).2 i (j + q) _ h1 (by omega) (hgv q hlt)
      have hrun := run_loadCells_window (P := P) (w := w) (b := b) (off := c.o + (i * sh.length + j)) xs hget
      have hxl : xs.length = P.cellsOf t := by simp [xs]
      obtain ⟨inf, hinf⟩ := underlying_info hu
      have hsz : P.cellsOf t = inf.size := by simp [Program.cellsOf, hinf]
      have run : (execOp ρ o).run P w = .ok (.value (.agg xs.toArray)) w := by
        simp only [execOp, ho, Instr.loadAt, hx, Instr.sureAddr, Sem.run_bind, Sem.run_pure, Result.andThen_ok, loadVar, run_isAgg' hu, hagg, if_true, run_sizeOf' hinf]
        rw [hxl] at hrun
        rw [hrun]
        rfl
      have hL : ∀ (l : List Nat), (∀ q ∈ l, q < P.cellsOf t) → denL E (l.map fun q => cellA (sh.getD (j + q) .any) (rowCV (rowAt rows i) (j + q))) = some (l.map g) := fun l => by
        induction l with
        | nil => intro _; rfl
        | cons q l ih =>
          intro hq
          simp only [List.map_cons]
          exact qxz.2 ⟨_, _, (cden _ _ _ (hgv q (hq q (List.mem_cons_self ..)))).1, ih fun p hp => hq p (List.mem_cons_of_mem _ hp), rfl⟩
      refine Good.pure rfl rfl (x := .agg xs.toArray) run (denC_agg.2 ⟨xs, ⟨hL _ fun q hq => List.mem_range.1 hq, ?_⟩, rfl⟩)
      unfold allOne
      refine List.all_eq_true.2 fun v hv => ?_
      obtain ⟨q, hq, rfl⟩ := List.mem_map.1 hv
      exact (cden _ _ _ (hgv q (List.mem_range.1 hq))).2
    · cases hr
  split at hr
  · rename_i d kd hu hk
    split at hr
    · rename_i v hcv
      split at hr
      · cases hr
      · rename_i hagg
        cases hr
        obtain ⟨h1, h2, _⟩ := k
        have h2 : w' = sh.length := h2
        subst h2
        have hj := (List.getElem?_eq_some_iff.1 hk).1
        have hcell := (hob hz).2 i j v h1 hj (by rw [List.getD_eq_getElem?_getD, hk]; exact hcv)
        have run : (execOp ρ o).run P w = ((loadVar t ⟨b, c.o + (i * sh.length + j), none⟩).run P w).andThen fun v w' => .ok (.value v) w' := by
          simp only [execOp, ho, Instr.loadAt, hx, Instr.sureAddr, Sem.run_bind, Sem.run_pure, Result.andThen_ok]
        refine Good.pure rfl rfl (x := v) ?_ ?_
        · rw [run]
          simp only [loadVar, Sem.run_bind, run_isAgg' hu, Result.andThen_ok, hagg, Bool.false_eq_true, if_false, run_load, hcell]
        · cases kd <;> simp [cellV] at hcv <;> subst hcv <;> rfl
    · cases hr
  · cases hr
theorem slOf_spec : ∀ {sh : List CK} {q : Nat}, slOf sh = some q → sh[q]? = some (.sl [.int .i64])
  | [], q, h => by cases h
  | k :: sh, q, h => by
    unfold slOf at h
    split at h
    · rename_i e; cases e
    · rename_i e; cases e; cases h; rfl
    · rename_i e; cases e
      simp only [Option.map_eq_some_iff] at h
      obtain ⟨q', h', rfl⟩ := h
      simpa using slOf_spec h'
theorem denL_maps {E : Env} {f : Nat → AV} {g : Nat → Value} : ∀ (l : List Nat), (∀ j ∈ l, den E (f j) = some (g j)) → denL E (l.map f) = some (l.map g)
  | [], _ => rfl
  | j :: l, h => by
    simp only [List.map_cons]
    exact qxz.2 ⟨_, _, h j List.mem_cons_self, denL_maps l fun i hi => h i (List.mem_cons_of_mem _ hi), rfl⟩
theorem denL_intsN {E : Env} {k : IntKind} (l : List Int) : denL E (l.map (AV.int k)) = some (l.map (Value.int k)) := by
  induction l with
  | nil => rfl
  | cons a l ih => simp only [List.map_cons]; exact qxz.2 ⟨_, _, rfl, ih, rfl⟩
theorem good_loadN {o : Oper} {ρ : Operand → Value} {t : TypeId} {a : Operand} {nm w' i k : Nat} {sh : List CK} {rows : List (List CV)} {r : Res} (ho : o.op = .load t a) (hv : den E (.rptr nm w' i 0) = some (ρ a))
    (hp : Pre E w ⟨[nm], [], [k]⟩ [.flatN sh rows]) (hr : loadN P t w' i sh rows k = some r) (kk : AllP r.obl) : Good E w ⟨[nm], [], [k]⟩ r.upd r.new r.val ((execOp ρ o).run P w) := by
  obtain ⟨b, c, hb, hz, hx⟩ := rptr_den hv
  obtain ⟨b', c', hb', hu0, _, hob⟩ := hp.objs 0 nm _ rfl rfl
  rw [hb] at hb'; cases hb'
  have hk : E k = none := hp.fresh k (by simp)
  unfold loadN at hr
  split at hr
  · rename_i d q hu hq
    split at hr
    · rename_i hc
      simp only [Bool.and_eq_true, List.all_eq_true, List.mem_range, Bool.or_eq_true] at hc
      obtain ⟨hagg, hcells⟩ := hc
      cases hr
      obtain ⟨h1, h2, h3, _⟩ := kk
      have h2 : w' = sh.length := h2
      subst h2
      have h3 : P.cellsOf t = sh.length := h3
      obtain ⟨_, hcell, hkid⟩ := hob hz
      have hsq := slOf_spec hq
      have hql := (List.getElem?_eq_some_iff.1 hsq).1
      have hK := hkid i q .i64 h1 hsq
      let l := kidsOf (rowCV (rowAt rows i) q)
      have hkv : ∃ (kv : Value) (kp : Nat × Cap), w.cell? ⟨b, c.o + (i * sh.length + q), none⟩ = some kv ∧ den (E.set k kp) (.dsl k l.length) = some kv ∧ ObjR (E.set k kp) w kp.1 kp.2 (.flat false (l.map (AV.int .i64))) ∧ kp.2.bare ∧ (kp.2.z = false → under c kp.1) ∧ kv.oneCell' = true := by
        unfold KidAt at hK
        cases e : c.sub i q with
        | none =>
          rw [e] at hK
          obtain ⟨hl, qa, hc⟩ := hK
          have hl : l = [] := hl
          refine ⟨_, (0, { n := 0, z := true, a := qa }), hc, by simp [den, Env.set_same, hl], ?_, Cap.bare_of fun _ _ => rfl, fun h => (by cases h), rfl⟩
          rw [hl]
          exact ⟨[], ⟨rfl, rfl⟩, fun _ => rfl, fun h => by cases h⟩
        | some p =>
          rw [e] at hK
          obtain ⟨hl, hc, hi⟩ := hK
          refine ⟨_, (p.1, { n := p.2.2, o := p.2.1 }), hc, ?_, ⟨l.map (Value.int .i64), ⟨denL_intsN l, by simp [allOne, Value.oneCell']⟩, fun h => (by cases h), fun _ => ⟨hu0 p.1 ⟨i, q, p, e, rfl⟩, hi⟩⟩, Cap.bare_of fun _ _ => rfl, fun _ => ⟨i, q, p, e, rfl⟩, rfl⟩
          simp only [den, Env.set_same, Option.bind_some, Bool.false_eq_true, if_false]
          rw [if_pos hl]
      obtain ⟨kv, kp, k1, k2, k3, k4, k5, k6⟩ := hkv
      let g : Nat → Value := fun j => if j = q then kv else (cellV (sh.getD j .any) (rowCV (rowAt rows i) j)).getD undef
      let xs : List Value := (List.range sh.length).map g
      have hget : ∀ (j : Nat) (x : Value), xs[j]? = some x → w.cell? ⟨b, c.o + (i * sh.length + 0) + j, none⟩ = some x := fun j x hj => by
        simp only [xs, List.getElem?_map, Option.map_eq_some_iff] at hj
        obtain ⟨j', hj', rfl⟩ := hj
        obtain ⟨hlt, hj'⟩ := List.getElem?_eq_some_iff.1 hj'
        simp only [List.getElem_range] at hj'
        subst hj'
        simp only [List.length_range] at hlt
        rw [show c.o + (i * sh.length + 0) + j = c.o + (i * sh.length + j) by omega]
        by_cases hjq : j = q
        · subst hjq; simp only [g, if_pos]; exact k1
        · simp only [g, if_neg hjq]
          have := (hcells j hlt).resolve_left (fun e => hjq (Nat.eq_of_beq_eq_true e))
          obtain ⟨v, hv'⟩ := Option.isSome_iff_exists.1 this
          rw [hv']
          exact hcell i j v h1 hlt hv'
      have hrun := run_loadCells_window (P := P) (w := w) (b := b) (off := c.o + (i * sh.length + 0)) xs hget
      have hxl : xs.length = sh.length := by simp [xs]
      obtain ⟨inf, hinf⟩ := underlying_info hu
      have run : (execOp ρ o).run P w = .ok (.value (.agg xs.toArray)) w := by
        simp only [execOp, ho, Instr.loadAt, hx, Instr.sureAddr, Sem.run_bind, Sem.run_pure, Result.andThen_ok, loadVar, run_isAgg' hu, hagg, if_true, run_sizeOf' hinf, h3]
        rw [hxl] at hrun
        rw [hrun]
        rfl
      have hden : ∀ j ∈ List.range sh.length, den (E.set k kp) (cellN k (sh.getD j .any) (rowCV (rowAt rows i) j)) = some (g j) := fun j hj => by
        have hlt := List.mem_range.1 hj
        by_cases hjq : j = q
        · subst hjq
          have e : sh.getD j .any = .sl [.int .i64] := by rw [List.getD_eq_getElem?_getD, hsq]; rfl
          simp only [g, if_pos, e, cellN]; exact k2
        · have := (hcells j hlt).resolve_left (fun e => hjq (Nat.eq_of_beq_eq_true e))
          obtain ⟨v, hv'⟩ := Option.isSome_iff_exists.1 this
          simp only [g, if_neg hjq, hv', Option.getD_some]
          generalize sh.getD j .any = kd at hv'
          cases kd <;> simp [cellV] at hv' <;> subst hv' <;> rfl
      have hone : allOne xs = true := by
        simp only [allOne, List.all_eq_true]
        intro x hxm
        simp only [xs, List.mem_map] at hxm
        obtain ⟨j, hj, rfl⟩ := hxm
        have hlt := List.mem_range.1 hj
        by_cases hjq : j = q
        · simp only [g, if_pos hjq]; exact k6
        · have := (hcells j hlt).resolve_left (fun e => hjq (Nat.eq_of_beq_eq_true e))
          obtain ⟨v, hv'⟩ := Option.isSome_iff_exists.1 this
          simp only [g, if_neg hjq, hv', Option.getD_some]
          generalize sh.getD j .any = kd at hv'
          cases kd <;> simp [cellV] at hv' <;> subst hv' <;> rfl
      refine ⟨_, w, E.set k kp, .inl run, denC_agg.2 ⟨xs, ⟨denL_maps _ hden, hone⟩, rfl⟩, ?_⟩
      exact {
        le := .set hk
        only := fun n hn => Env.set_other E _ (by simpa using hn)
        wrote := fun e => by cases e
        made := fun j n o' e1 e2 => by
          cases j with
          | zero =>
            simp at e1 e2; subst e1; subst e2
            exact ⟨kp.1, kp.2, Env.set_same E _ _, k3, fun ht => .inr <| .inr ⟨rfl, nm, b, c, hb, k5 ht.1⟩⟩
          | succ j => simp at e1
        keep := fun _ _ _ => rfl
        newApart := fun j j' n m o1 o2 b1 c1 b2 c2 e1 e2 _ _ _ _ _ _ hne => by
          cases j with
          | zero => cases j' with
            | zero => exact absurd rfl hne
            | succ j' => simp at e2
          | succ j => simp at e1
        bare := fun n b1 c1 k1 hn he hu1 => by
          simp only [List.mem_singleton] at hn; subst hn
          rw [Env.set_same] at he
          have e2 : c1 = kp.2 := (congrArg Prod.snd (Option.some.inj he)).symm
          rw [e2] at hu1; exact absurd hu1 (k4 _)
        grow := Nat.le_refl _, os := rfl, tape := rfl, output := rfl }
    · cases hr
  · cases hr
theorem rptr_vec {nm w' i j : Nat} {x : Value} {cs : List AV} {te : TypeId} {sz : Nat} (hv : den E (.rptr nm w' i j) = some x) (hp : Pre E w ⟨[nm], [], []⟩ [.vec cs te sz]) : den E (.ptr nm (i * w' + j)) = some x := by
  obtain ⟨b, c, hb, hz, rfl⟩ := rptr_den hv
  obtain ⟨b', c', hb', xs, ys, _, _, _, h0, _⟩ := hp.objs 0 nm _ rfl rfl
  rw [hb] at hb'; cases hb'
  simp [den, hb, h0]
theorem rptr_vecW {nm w' i j : Nat} {x : Value} {cs : List AV} {te : TypeId} {sz : Nat} (hv : den E (.rptr nm w' i j) = some x) (hp : Pre E w ⟨[nm], [nm], []⟩ [.vec cs te sz]) : den E (.ptr nm (i * w' + j)) = some x := by
  obtain ⟨b, c, hb, hz, rfl⟩ := rptr_den hv
  obtain ⟨b', c', hb', xs, ys, _, _, _, h0, _⟩ := hp.objs 0 nm _ rfl rfl
  rw [hb] at hb'; cases hb'
  simp [den, hb, h0]
theorem over_append {xs ys vs : List Value} {off : Nat} (h : off + vs.length ≤ xs.length) : over (xs ++ ys) off vs = over xs off vs ++ ys := by
  rw [over_eq _ _ _ (by simp; omega), over_eq _ _ _ h, List.take_append_of_le_length (by omega), List.drop_append_of_le_length (by omega)]
  simp
theorem over_length : ∀ (vs xs : List Value) (off : Nat), (over xs off vs).length = xs.length
  | [], xs, off => rfl
  | v :: vs, xs, off => by simp [over, over_length vs]
theorem run_storeVar_obj {t : TypeId} {i : TypeInfo} {b off : Nat} {c : Cap} {v : AV} {x : Value} {o o1 : AObj} {off' : Nat} {cs : List AV} (hi : P.info? t = some i) (hn : v.notTuple = true) (hd : den E v = some x)
    (hb : ObjR E w b c o) (hk : o.known = some (off', cs)) (hs : o.setCells (cs.take off ++ v.cells ++ cs.drop (off + P.cellsOf t)) = some o1) (h1 : v.cells.length = P.cellsOf t) (h2 : off + P.cellsOf t ≤ cs.length) :
    ∃ w', (storeVar t ⟨b, off, none⟩ x).run P w = .ok () w' ∧ ObjR E w' b c o1 ∧ Upd b w w' := by
  obtain ⟨vs, hvs, hve⟩ := notTuple_cells hn hd
  have hvl := qxu hvs
  have hsz : x.cells.size = P.cellsOf t := by rw [cells_len hvs hve, h1]
  have run : (storeVar t ⟨b, off, none⟩ x).run P w = (storeCells ⟨b, off, none⟩ vs).run P w := by
    simp [storeVar, run_sizeOf' hi, hve, hvl, h1]
  rw [run]
  cases o with
  | cells cs' ty =>
    simp only [AObj.known, Option.some.injEq, Prod.mk.injEq] at hk; obtain ⟨_, rfl⟩ := hk
    simp only [AObj.setCells, Option.some.injEq] at hs; subst hs
    obtain ⟨xs, hx, hw⟩ := hb
    have hl := qxu hx
    obtain ⟨w', hr, hw', hu⟩ := run_storeCells (P := P) vs xs off 0 w hw (.inl rfl) (by omega) hvs.2
    refine ⟨w', hr, ⟨_, ?_, hw'⟩, hu⟩
    rw [Nat.add_zero, over_eq _ _ _ (by omega), hvl, h1]
    exact denC_append (denC_append (denC_take hx _) hvs) (denC_drop hx _)
  | vec cs' ty sz =>
    simp only [AObj.known, Option.some.injEq, Prod.mk.injEq] at hk; obtain ⟨_, rfl⟩ := hk
    simp only [AObj.setCells, Option.some.injEq] at hs; subst hs
    obtain ⟨xs, ys, hx, ⟨m, hw, hm⟩, hsp, hoz⟩ := hb
    have hl := qxu hx
    obtain ⟨w', hr, hw', hu⟩ := run_storeCells (P := P) vs (xs ++ ys) off 0 w hw hm (by simp; omega) hvs.2
    rw [Nat.add_zero, over_append (by omega)] at hw'
    refine ⟨w', hr, ⟨_, ys, ?_, ⟨m, hw', by simpa [over_length] using hm⟩, ?_, hoz⟩, hu⟩
    · rw [over_eq _ _ _ (by omega), hvl, h1]
      exact denC_append (denC_append (denC_take hx _) hvs) (denC_drop hx _)
    · rw [← hsp]; simp [over_length]
  | ro a b => simp [AObj.setCells] at hs
  | flat m a => simp [AObj.setCells] at hs
  | flatR m sh rows => simp [AObj.setCells] at hs
  | flatN sh rows => simp [AObj.setCells] at hs
  | iter a b => simp [AObj.setCells] at hs
  | shut a b c => simp [AObj.setCells] at hs
  | mapS n ks => simp [AObj.setCells] at hs
  | loopR up n ix cs ps asg body => simp [AObj.setCells] at hs
  | dead => simp [AObj.setCells] at hs
theorem Eff.write {nm b : Nat} {c : Cap} {w' : World} {o1 : AObj} (hb : E nm = some (b, c)) (ho : ObjR E w' b c o1) (hu : Upd b w w') : Eff E E w w' ⟨[nm], [nm], []⟩ [o1] [] :=
  { le := .refl _, only := fun _ _ => rfl
    wrote := fun _ i n o h1 h2 => by
      cases i with
      | zero => simp at h1 h2; subst h1; subst h2; exact ⟨b, c, hb, ho⟩
      | succ i => simp at h1
    made := fun i n o h1 => by simp at h1
    keep := fun k hk hne => hu.keep k (by rintro rfl; exact hne nm (by simp) c hb)
    newApart := fun i j n m o1 o2 b c b' c' h1 => by simp at h1
    bare := fun n b c k h1 => by simp at h1
    grow := by rw [hu.size]; exact Nat.le_refl _
    os := hu.os, tape := hu.tape, output := hu.output }
theorem good_store {o : Oper} {ρ : Operand → Value} {t : TypeId} {a x : Operand} {h : Hint} {nm off : Nat} {v : AV} {ob : AObj} {r : Res} (ho : o.op = .store t a x) (hv : den E (.ptr nm off) = some (ρ a)) (hx : den E v = some (ρ x))
    (hp : Pre E w ⟨[nm], [nm], []⟩ [ob]) (hr : storeA P h t off v ob = some r) (k : AllP r.obl) : Good E w ⟨[nm], [nm], []⟩ r.upd r.new r.val ((execOp ρ o).run P w) := by
  obtain ⟨b, c, hb, hpx⟩ := ptr_den hv
  obtain ⟨b', c', hb', hob⟩ := hp.objs 0 nm ob rfl rfl
  rw [hb] at hb'; cases hb'
  unfold storeA at hr
  split at hr
  · cases hr
  · rename_i hc
    simp only [Bool.or_eq_true, Bool.not_eq_true', not_or, Bool.not_eq_false, Option.isNone_iff_eq_none] at hc
    obtain ⟨hn, hi⟩ := hc
    obtain ⟨i, hi⟩ := Option.ne_none_iff_exists'.1 hi
    have run : ∀ w', (storeVar t ⟨b, off, none⟩ (ρ x)).run P w = .ok () w' → (execOp ρ o).run P w = .ok .skip w' := by
      intro w' hw'
      simp only [execOp, ho, Instr.storeAt, hpx, Instr.sureAddr, Sem.run_bind, Sem.run_pure, Result.andThen_ok, hw']
    split at hr
    · rename_i o0 cs hk
      simp only at hr
      split at hr
      · rename_i o' hobj
        split at hr
        · rename_i o1 hs
          cases hr
          obtain ⟨h1, h2, h3, _⟩ := k
          subst h3
          obtain ⟨w', hr', ho', hu⟩ := run_storeVar_obj hi hn hx hob hk hs h1 h2
          exact ⟨undef, w', E, .inr ⟨run w' hr', rfl⟩, rfl, .write hb ho' hu⟩
        · cases hr
      · split at hr
        · rename_i o1 hs
          cases hr
          obtain ⟨h1, h2, _⟩ := k
          obtain ⟨w', hr', ho', hu⟩ := run_storeVar_obj hi hn hx hob hk hs h1 h2
          exact ⟨undef, w', E, .inr ⟨run w' hr', rfl⟩, rfl, .write hb ho' hu⟩
        · cases hr
    · cases hr
theorem boundA_run {d y : Nat} {lo : Option Operand} {vs rest : List AV} {xs : List Value} {ρ : Operand → Value} {ob : List Prop} {n : Nat} {code : BoundsCode} (h : boundA d lo vs = some (ob, n, rest)) (hv : denL E vs = some (lo.toArray.toList.map ρ ++ xs)) (hob : AllP ob) :
    denL E rest = some xs ∧ ((lo = none ∧ n = d) ∨ (∃ p, lo = some p ∧ (n ≤ y → (Instr.sliceBound (ρ p) y code).run P w = .ok n w))) := by
  unfold boundA at h
  split at h
  · cases h; exact ⟨by simpa using hv, .inl ⟨rfl, rfl⟩⟩
  · rename_i p k i vs'
    cases h
    simp only [Option.toArray_some, List.map_cons, List.map_nil, List.singleton_append, List.cons_append, List.nil_append] at hv
    obtain ⟨h1, h2⟩ := denL_split hv
    refine ⟨h2, .inr ⟨p, rfl, fun hle => ?_⟩⟩
    have e' : ρ p = .int k i := by simpa [den] using h1.symm
    have h0 := hob.1
    rw [e']
    simp [Instr.sliceBound, asIntOf, show 0 ≤ i ∧ i ≤ (y : Int) by omega]
  · cases h
theorem boundsA_run {isSlice : Bool} {len cap : Nat} {lo hi mx : Option Operand} {vs : List AV} {ρ : Operand → Value} {ob : List Prop} {l u m : Nat} (h : boundsA len cap lo hi mx vs = some (ob, l, u, m))
    (hv : denL E vs = some ((lo.toArray ++ hi.toArray ++ mx.toArray).toList.map ρ)) (hob : AllP ob) (hm : mx.isSome → hi.isSome) :
    (Instr.sliceBounds isSlice len cap (lo.map ρ) (hi.map ρ) (mx.map ρ)).run P w = .ok (l, u, m) w ∧ l ≤ u ∧ u ≤ m ∧ m ≤ cap := by
  unfold boundsA at h
  split at h
  · rename_i o1 l' vs1 h1
    split at h
    · rename_i o2 u' vs2 h2
      split at h
      · rename_i o3 m' h3
        cases h
        obtain ⟨hob12, hl, hu, hmc, _⟩ := qzu.1 hob |>.imp id id
        obtain ⟨hob12', hob3⟩ := qzu.1 hob12
        obtain ⟨hob1, hob2⟩ := qzu.1 hob12'
        simp only [Array.toList_append, List.map_append, List.append_assoc] at hv
        obtain ⟨d1, r1⟩ := boundA_run (P := P) (w := w) (y := u) (code := if mx.isSome then .slice3C else .sliceB) h1 hv hob1
        obtain ⟨d2, r2⟩ := boundA_run (P := P) (w := w) (y := m) (code := if mx.isSome then .slice3B else if isSlice then .sliceAcap else .sliceAlen) h2 d1 hob2
        obtain ⟨d3, r3⟩ := boundA_run (P := P) (w := w) (y := cap) (xs := []) (code := if isSlice then .slice3Acap else .slice3Alen) h3 (by simpa using d2) hob3
        refine ⟨?_, hl, hu, hmc⟩
        rcases r3 with ⟨e3, n3⟩ | ⟨p3, e3, n3⟩
        · subst e3; subst n3
          rcases r2 with ⟨e2, n2⟩ | ⟨p2, e2, n2⟩
          · subst e2; subst n2
            rcases r1 with ⟨e1, n1⟩ | ⟨p1, e1, n1⟩
            · subst e1; subst n1; simp [Instr.sliceBounds]
            · subst e1; have := n1 hl; simp at this; simp [Instr.sliceBounds, this]
          · subst e2; have t2 := n2 hu; simp at t2
            rcases r1 with ⟨e1, n1⟩ | ⟨p1, e1, n1⟩
            · subst e1; subst n1; cases isSlice <;> simp at t2 <;> simp [Instr.sliceBounds, t2]
            · subst e1; have := n1 hl; simp at this; cases isSlice <;> simp at t2 <;> simp [Instr.sliceBounds, this, t2]
        · subst e3; have t3 := n3 hmc
          rcases r2 with ⟨e2, n2⟩ | ⟨p2, e2, n2⟩
          · subst e2; exact absurd (hm rfl) (by simp)
          · subst e2; have t2 := n2 hu; simp at t2
            rcases r1 with ⟨e1, n1⟩ | ⟨p1, e1, n1⟩
            · subst e1; subst n1; cases isSlice <;> simp at t3 <;> simp [Instr.sliceBounds, t2, t3]
            · subst e1; have := n1 hl; simp at this; cases isSlice <;> simp at t3 <;> simp [Instr.sliceBounds, this, t2, t3]
      · cases h
    · cases h
  · cases h
end Go.Proofs.YtphhepnldndbhaaGreatDoor.Sx
namespace Go.Proofs.YtphhepnldndbhaaGreatDoor.Sx
open Go
variable {P : Program} {E : Env} {w : World}
theorem good_fin {F : Foot} {h : Hint} {ob : List Prop} {v : AV} {r : Result Next} {x : Value} (hF : F.wr = false) (ha : F.al = []) (k : AllP (fin h ob v).obl) (hr : AllP ob → r = .ok (.value x) w ∧ den E v = some x) :
    Good E w F (fin h ob v).upd (fin h ob v).new (fin h ob v).val r := by
  obtain ⟨h1, e1, e2, e3⟩ := fin_spec k
  rw [e1, e3]
  exact Good.pure hF ha (hr h1).1 (hr h1).2
theorem good_new {k : Nat} {h : Hint} {ob : List Prop} {v : AV} {o : AObj} {r : Result Next} (kk : AllP (newA h ob v o).obl) (hr : AllP ob → Good E w ⟨[], [], [k]⟩ [] [o] v r) :
    Good E w ⟨[], [], [k]⟩ (newA h ob v o).upd (newA h ob v o).new (newA h ob v o).val r := by
  obtain ⟨h1, e1, e2, e3⟩ := newA_cases kk
  rw [e1, e2, e3]
  exact hr h1
theorem good_slice {k l c : Nat} {cs : List AV} {xs : List Value} {t : TypeId} {r : Result Next} (hk : E k = none) (hc : denC E cs xs)
    (hr : r = .ok (.value (.slice (some ⟨w.heap.size, 0, none⟩) l c)) { w with heap := w.heap.push (.cells xs.toArray t) }) :
    Good E w ⟨[], [], [k]⟩ [] [.cells cs t] (.slice k 0 l c) r :=
  ⟨_, _, E.set k (w.heap.size, 0), .inl hr, by simp [den, Env.set_same], .push rfl rfl rfl rfl hk ⟨xs, denC_mono (.set hk) hc, push_new rfl⟩ (fun e => absurd rfl e)⟩
theorem good_vec {k l sz : Nat} {cs : List AV} {xs : List Value} {t : TypeId} {r : Result Next} (hk : E k = none) (hc : denC E cs xs) (hl : cs.length = l * sz)
    (hr : r = .ok (.value (.slice (some ⟨w.heap.size, 0, none⟩) l l)) { w with heap := w.heap.push (.cells xs.toArray t) }) :
    Good E w ⟨[], [], [k]⟩ [] [.vec cs t sz] (.vec k l) r :=
  ⟨_, _, E.set k (w.heap.size, { n := l }), .inl hr, by simp [den, Env.set_same], .push rfl rfl rfl rfl hk ⟨xs, [], denC_mono (.set hk) hc, ⟨(0, 0), by rw [push_new rfl, List.append_nil], .inl rfl⟩, by rw [List.append_nil, qxu hc, hl], rfl, rfl⟩ (fun e => absurd rfl e)⟩
theorem range_mod (zs : List Value) : ∀ n : Nat, (List.range (n * zs.length)).map (fun i => zs.toArray[i % zs.toArray.size]!) = (List.replicate n zs).flatten
  | 0 => by simp
  | n + 1 => by
    rw [List.replicate_succ', List.flatten_append, ← range_mod zs n, Nat.succ_mul, List.range_add, List.map_append, List.map_map]
    congr 1
    simp only [List.flatten_cons, List.flatten_nil, List.append_nil]
    apply List.ext_getElem?
    intro i
    simp only [List.getElem?_map, List.getElem?_range']
    by_cases hi : i < zs.length
    · simp [hi, Nat.mod_eq_of_lt hi]
    · simp [hi, List.getElem?_eq_none (Nat.le_of_not_lt hi)]
theorem denC_flat {z : List AV} {zs : List Value} (h : denC E z zs) : ∀ n : Nat, denC E (List.replicate n z).flatten (List.replicate n zs).flatten
  | 0 => ⟨rfl, rfl⟩
  | n + 1 => by simp only [List.replicate_succ, List.flatten_cons]; exact denC_append h (denC_flat h n)
theorem good_makeSlice {o : Oper} {ρ : Operand → Value} {t e : TypeId} {p q : Operand} {h : Hint} {k1 k2 : IntKind} {len cap : Int} {k : Nat} {ie : TypeInfo} {z : AV} {r : Res} (ho : o.op = .makeSlice t p q)
    (hp : den E (.int k1 len) = some (ρ p)) (hq : den E (.int k2 cap) = some (ρ q)) (hu : P.underlying t = some (.slice e)) (hi : P.info? e = some ie) (hz : zeroA P e = some z) (h0 : 0 < ie.size) (hl : z.cells.length = ie.size) (hn : z.notTuple = true) (hk : E k = none)
    (hr : r = newA h [0 ≤ len, len ≤ cap, cap * ie.bytes ≤ 281474976710656, cap < 9223372036854775808] (.slice k 0 len.toNat cap.toNat) (.cells (List.replicate cap.toNat z.cells).flatten e)) (kk : AllP r.obl) :
    Good E w ⟨[], [], [k]⟩ r.upd r.new r.val ((execOp ρ o).run P w) := by
  subst hr
  refine good_new kk fun hob => ?_
  obtain ⟨h1, h2, h3, h4, _⟩ := hob
  obtain ⟨x, hx, hd⟩ := run_zeroValue (w := w) (E := E) hz
  have hp' : ρ p = .int k1 len := by simpa [den] using hp.symm
  have hq' : ρ q = .int k2 cap := by simpa [den] using hq.symm
  have hw1 : IntKind.i64.wrap len = len := IntWalk.i64_in len (by omega)
  have hw2 : IntKind.i64.wrap cap = cap := IntWalk.i64_in cap (by omega)
  have hsz : P.cellsOf e = ie.size := by simp [Program.cellsOf, hi]
  obtain ⟨zs, hzs, hze⟩ := notTuple_cells hn hd
  have hzl : zs.length = ie.size := (qxu hzs).trans hl
  refine good_slice hk (denC_flat hzs cap.toNat) ?_
  have hbig : ¬ ((2 : Int) ^ 48 < (ie.bytes : Int) * cap) := by
    rw [Int.mul_comm]; show ¬ ((281474976710656 : Int) < cap * ie.bytes); omega
  have htl : ¬ (((cap < 0 ∨ 281474976710656 < (ie.bytes : Int) * cap) ∨ len < 0) ∨ cap < len) := by
    rintro (((h | h) | h) | h)
    · omega
    · exact hbig h
    · omega
    · omega
  have hrange : (Array.range (cap.toNat * ie.size)).map (fun x => (if cap.toNat * ie.size = 0 then #[] else zs.toArray)[x % (if cap.toNat * ie.size = 0 then #[] else zs.toArray).size]!) = ((List.replicate cap.toNat zs).flatten).toArray := by
    by_cases hc : cap.toNat * ie.size = 0
    · have hc0 : cap.toNat = 0 := by
        rcases Nat.mul_eq_zero.1 hc with h | h
        · exact h
        · omega
      rw [hc0]; simp
    · have := range_mod zs cap.toNat
      rw [hzl] at this
      rw [if_neg hc, ← this]
      apply Array.ext'
      rw [Array.toList_map, Array.toList_range]
  simp only [execOp, ho, Instr.makeSlice, Sem.run_bind, run_underlying' hu, Result.andThen_ok, hp', hq', asInt, asIntOf, Sem.run_pure, typeInfo, run_program, hi]
  rw [Sem.run_ite, if_neg (by simpa [hw1, hw2] using htl)]
  simp only [Sem.run_pure, Sem.run_bind, Result.andThen_ok, run_askRoom, run_sizeOf' hi, hsz, hw1, hw2]
  by_cases hc : cap.toNat * ie.size = 0
  · rw [if_pos hc] at hrange ⊢
    simp only [Sem.run_pure, Sem.run_bind, Result.andThen_ok, newRow, run_newObj, hrange]
  · rw [if_neg hc] at hrange ⊢
    simp only [Sem.run_pure, Sem.run_bind, Result.andThen_ok, newRow, run_newObj, hx, hze, hrange]
theorem good_makeVec {o : Oper} {ρ : Operand → Value} {t e : TypeId} {p q : Operand} {h : Hint} {k1 k2 : IntKind} {len cap : Int} {k : Nat} {ie : TypeInfo} {z : AV} {r : Res} (ho : o.op = .makeSlice t p q)
    (hp : den E (.int k1 len) = some (ρ p)) (hq : den E (.int k2 cap) = some (ρ q)) (hu : P.underlying t = some (.slice e)) (hi : P.info? e = some ie) (hz : zeroA P e = some z) (h0 : 0 < ie.size) (hl : z.cells.length = ie.size) (hn : z.notTuple = true) (hk : E k = none)
    (hr : r = newA h [0 ≤ len, len = cap, cap * ie.bytes ≤ 281474976710656, cap < 9223372036854775808] (.vec k cap.toNat) (.vec (List.replicate cap.toNat z.cells).flatten e ie.size)) (kk : AllP r.obl) :
    Good E w ⟨[], [], [k]⟩ r.upd r.new r.val ((execOp ρ o).run P w) := by
  subst hr
  refine good_new kk fun hob => ?_
  obtain ⟨h1, h2, h3, h4, _⟩ := hob
  subst h2
  obtain ⟨x, hx, hd⟩ := run_zeroValue (w := w) (E := E) hz
  have hp' : ρ p = .int k1 len := by simpa [den] using hp.symm
  have hq' : ρ q = .int k2 len := by simpa [den] using hq.symm
  have hw1 : IntKind.i64.wrap len = len := IntWalk.i64_in len (by omega)
  have hsz : P.cellsOf e = ie.size := by simp [Program.cellsOf, hi]
  obtain ⟨zs, hzs, hze⟩ := notTuple_cells hn hd
  have hzl : zs.length = ie.size := (qxu hzs).trans hl
  refine good_vec hk (denC_flat hzs len.toNat) (by rw [List.length_flatten, List.map_replicate, hl]; simp) ?_
  have hbig : ¬ ((2 : Int) ^ 48 < (ie.bytes : Int) * len) := by
    rw [Int.mul_comm]; show ¬ ((281474976710656 : Int) < len * ie.bytes); omega
  have htl : ¬ (((len < 0 ∨ 281474976710656 < (ie.bytes : Int) * len) ∨ len < 0) ∨ len < len) := by
    rintro (((h | h) | h) | h)
    · omega
    · exact hbig h
    · omega
    · omega
  have hrange : (Array.range (len.toNat * ie.size)).map (fun x => (if len.toNat * ie.size = 0 then #[] else zs.toArray)[x % (if len.toNat * ie.size = 0 then #[] else zs.toArray).size]!) = ((List.replicate len.toNat zs).flatten).toArray := by
    by_cases hc : len.toNat * ie.size = 0
    · have hc0 : len.toNat = 0 := by
        rcases Nat.mul_eq_zero.1 hc with h | h
        · exact h
        · omega
      rw [hc0]; simp
    · have := range_mod zs len.toNat
      rw [hzl] at this
      rw [if_neg hc, ← this]
      apply Array.ext'
      rw [Array.toList_map, Array.toList_range]
  simp only [execOp, ho, Instr.makeSlice, Sem.run_bind, run_underlying' hu, Result.andThen_ok, hp', hq', asInt, asIntOf, Sem.run_pure, typeInfo, run_program, hi]
  rw [Sem.run_ite, if_neg (by simpa [hw1] using htl)]
  simp only [Sem.run_pure, Sem.run_bind, Result.andThen_ok, run_askRoom, run_sizeOf' hi, hsz, hw1]
  by_cases hc : len.toNat * ie.size = 0
  · rw [if_pos hc] at hrange ⊢
    simp only [Sem.run_pure, Sem.run_bind, Result.andThen_ok, newRow, run_newObj, hrange]
  · rw [if_neg hc] at hrange ⊢
    simp only [Sem.run_pure, Sem.run_bind, Result.andThen_ok, newRow, run_newObj, hx, hze, hrange]
end Go.Proofs.YtphhepnldndbhaaGreatDoor.Sx
namespace Go.Proofs.YtphhepnldndbhaaGreatDoor.Sx
open Go
variable {P : Program} {E : Env} {w : World}
theorem good_buildSlice {o : Oper} {ρ : Operand → Value} {t e : TypeId} {len : Nat} {ps : Array (Nat × Operand)} {vs : List AV} {h : Hint} {k : Nat} {ie : TypeInfo} {z : AV} {ob : List Prop} {c : List AV} {r : Res} (ho : o.op = .buildSlice t len ps)
    (hv : denL E vs = some (ps.toList.map fun p => ρ p.2)) (hu : P.underlying t = some (.slice e)) (hi : P.info? e = some ie) (hz : zeroA P e = some z) (hps : ps.size = vs.length) (h0 : 0 < ie.size) (h2 : len * ie.size ≤ 16777216)
    (hn' : ((partsA ps.toList vs).all fun p => p.2.notTuple) = true) (hl : z.cells.length = ie.size) (hn : z.notTuple = true) (hk : E k = none)
    (hf : fillA (fun i => some (i * ie.size, ie.size)) (List.replicate len z.cells).flatten (partsA ps.toList vs) = some (ob, c)) (hr : r = newA h ob (.slice k 0 len len) (.cells c e)) (kk : AllP r.obl) :
    Good E w ⟨[], [], [k]⟩ r.upd r.new r.val ((execOp ρ o).run P w) := by
  subst hr
  refine good_new kk fun hob => ?_
  obtain ⟨x, hx, hd⟩ := run_zeroValue (w := w) (E := E) hz
  obtain ⟨zs, hzs, hze⟩ := notTuple_cells hn hd
  have hzl : zs.length = ie.size := (qxu hzs).trans hl
  have hsz : P.cellsOf e = ie.size := by simp [Program.cellsOf, hi]
  obtain ⟨p1, p2⟩ := partsA_spec (E := E) (ρ := ρ) ps.toList vs (by simpa using hps) hv
  obtain ⟨ys, hy, hdy⟩ := fillA_run (partsA ps.toList vs) (ps.toList.map fun p => (p.1, ρ p.2)) _ _ _ _ (denC_flat hzs len) hf hob hn' (by rw [p1]; simp) (by rw [p2]; simp)
  refine good_slice hk hdy ?_
  have hrange : (Array.range (len * ie.size)).map (fun x => zs.toArray[x % zs.toArray.size]!) = ((List.replicate len zs).flatten).toArray := by
    have := range_mod zs len
    rw [hzl] at this
    rw [← this]
    apply Array.ext'
    rw [Array.toList_map, Array.toList_range]
  have hy' : Instr.fill (fun i => some (i * ie.size, ie.size)) ((List.replicate len zs).flatten).toArray (ps.map fun (i, x) => (i, ρ x)).toList = some ys.toArray := by
    rw [← hy]; congr 1; simp
  simp only [execOp, ho, Instr.buildSlice, Sem.run_bind, run_underlying' hu, Result.andThen_ok, run_sizeOf' hi, hsz]
  rw [if_neg (by omega)]
  simp only [Sem.run_bind, Sem.run_pure, Result.andThen_ok]
  rcases Nat.eq_zero_or_pos len with rfl | h1
  · rw [if_pos (Nat.zero_mul _)]
    have e0 : (Array.range (0 * ie.size)).map (fun x => (#[] : Array Value)[x % (#[] : Array Value).size]!) = ((List.replicate 0 zs).flatten).toArray := by simp
    simp only [Sem.run_bind, Result.andThen_ok, Sem.run_pure, e0, hy', newRow, run_newObj]
  have hne : ¬ len * ie.size = 0 := by
    intro hh; rcases Nat.mul_eq_zero.1 hh with h | h <;> omega
  rw [if_neg hne]
  simp only [Sem.run_bind, hx, Result.andThen_ok, Sem.run_pure, hze, hrange, hy', newRow, run_newObj]
theorem good_buildVec {o : Oper} {ρ : Operand → Value} {t e : TypeId} {len : Nat} {ps : Array (Nat × Operand)} {vs : List AV} {h : Hint} {k : Nat} {ie : TypeInfo} {z : AV} {ob : List Prop} {c : List AV} {r : Res} (ho : o.op = .buildSlice t len ps)
    (hv : denL E vs = some (ps.toList.map fun p => ρ p.2)) (hu : P.underlying t = some (.slice e)) (hi : P.info? e = some ie) (hz : zeroA P e = some z) (hps : ps.size = vs.length) (h0 : 0 < ie.size) (h2 : len * ie.size ≤ 16777216)
    (hn' : ((partsA ps.toList vs).all fun p => p.2.notTuple) = true) (hl : z.cells.length = ie.size) (hn : z.notTuple = true) (hk : E k = none)
    (hf : fillA (fun i => some (i * ie.size, ie.size)) (List.replicate len z.cells).flatten (partsA ps.toList vs) = some (ob, c)) (hr : r = newA h (ob ++ [c.length = len * ie.size]) (.vec k len) (.vec c e ie.size)) (kk : AllP r.obl) :
    Good E w ⟨[], [], [k]⟩ r.upd r.new r.val ((execOp ρ o).run P w) := by
  subst hr
  refine good_new kk fun hob => ?_
  obtain ⟨hob, hcl, _⟩ := qzu.1 hob
  obtain ⟨x, hx, hd⟩ := run_zeroValue (w := w) (E := E) hz
  obtain ⟨zs, hzs, hze⟩ := notTuple_cells hn hd
  have hzl : zs.length = ie.size := (qxu hzs).trans hl
  have hsz : P.cellsOf e = ie.size := by simp [Program.cellsOf, hi]
  obtain ⟨p1, p2⟩ := partsA_spec (E := E) (ρ := ρ) ps.toList vs (by simpa using hps) hv
  obtain ⟨ys, hy, hdy⟩ := fillA_run (partsA ps.toList vs) (ps.toList.map fun p => (p.1, ρ p.2)) _ _ _ _ (denC_flat hzs len) hf hob hn' (by rw [p1]; simp) (by rw [p2]; simp)
  refine good_vec hk hdy hcl ?_
  have hrange : (Array.range (len * ie.size)).map (fun x => zs.toArray[x % zs.toArray.size]!) = ((List.replicate len zs).flatten).toArray := by
    have := range_mod zs len
    rw [hzl] at this
    rw [← this]
    apply Array.ext'
    rw [Array.toList_map, Array.toList_range]
  have hy' : Instr.fill (fun i => some (i * ie.size, ie.size)) ((List.replicate len zs).flatten).toArray (ps.map fun (i, x) => (i, ρ x)).toList = some ys.toArray := by
    rw [← hy]; congr 1; simp
  simp only [execOp, ho, Instr.buildSlice, Sem.run_bind, run_underlying' hu, Result.andThen_ok, run_sizeOf' hi, hsz]
  rw [if_neg (by omega)]
  simp only [Sem.run_bind, Sem.run_pure, Result.andThen_ok]
  rcases Nat.eq_zero_or_pos len with rfl | h1
  · rw [if_pos (Nat.zero_mul _)]
    have e0 : (Array.range (0 * ie.size)).map (fun x => (#[] : Array Value)[x % (#[] : Array Value).size]!) = ((List.replicate 0 zs).flatten).toArray := by simp
    simp only [Sem.run_bind, Result.andThen_ok, Sem.run_pure, e0, hy', newRow, run_newObj]
  have hne : ¬ len * ie.size = 0 := by
    intro hh; rcases Nat.mul_eq_zero.1 hh with h | h <;> omega
  rw [if_neg hne]
  simp only [Sem.run_bind, hx, Result.andThen_ok, Sem.run_pure, hze, hrange, hy', newRow, run_newObj]
theorem elemsA_run {sz : Nat} {x : AV} {X : Value} {cs : List AObj} {ob : List Prop} {n : Nat} {new : List AV} (h : elemsA sz x cs = some (ob, n, new)) (hob : AllP ob) (hx : den E x = some X)
    (hc : ∀ (i nm : Nat) (o : AObj), x.name[i]? = some nm → cs[i]? = some o → ∃ b c, E nm = some (b, c) ∧ ObjR E w b c o) :
    ∃ xs, denC E new xs ∧ new.length = n * sz ∧ ∀ w' : World, w'.heap = w.heap → (Builtin.lenOf X).run P w' = .ok n w' ∧ (Builtin.firstCells sz n X).run P w' = .ok xs.toArray w' := by
  unfold elemsA at h
  split at h
  · cases h; cases hx
    exact ⟨[], ⟨rfl, rfl⟩, by simp, fun w' _ => ⟨rfl, rfl⟩⟩
  · rename_i s
    cases h; cases hx
    have h1 := hob.1
    subst h1
    refine ⟨s.map fun b => .int .u8 b.toNat, ⟨?_, ?_⟩, by simp [u8s], fun w' _ => ⟨?_, ?_⟩⟩
    · clear hob
      induction s with
      | nil => rfl
      | cons b s ih => simp only [u8s, List.map_cons]; exact qxz.2 ⟨_, _, rfl, ih (fun i nm o hi => by simp [AV.name] at hi), rfl⟩
    · simp [allOne, Value.oneCell']
    · rfl
    · simp only [Builtin.firstCells, Sem.run_pure]
      congr 1
      have e1 : ((ByteArray.mk s.toArray).extract 0 s.length).data = s.toArray := by
        simp only [ByteArray.data_extract]
        simp
      rw [e1]; simp
  · rename_i nm off len cap o
    obtain ⟨b, c, hb, rfl⟩ := slice_den hx
    split at h
    · rename_i o0 c' hk
      cases h
      obtain ⟨h1, h2, _⟩ := hob
      obtain ⟨b', c'', hb', hob'⟩ := hc 0 nm o rfl rfl
      rw [hb] at hb'; cases hb'
      obtain ⟨xs, hxs, hw⟩ := hob'.window hk
      have hl := qxu hxs
      refine ⟨(xs.drop (off - o0)).take (n * sz), denC_take (denC_drop hxs _) _, by simp; omega, fun w' hw' => ⟨rfl, ?_⟩⟩
      have hwin : ∀ (i : Nat) x, xs[i]? = some x → w'.cell? ⟨b, o0 + i, none⟩ = some x := fun i x hi => by
        rw [← hw i x hi]; simp only [World.cell?, hw']
      have := run_window_cells (P := P) (n := n * sz) hwin h1 (by omega)
      simp only [Builtin.firstCells, this]
    · cases h
  · rename_i nm len o
    obtain ⟨b, c, hb, rfl⟩ := vec_den hx
    split at h
    · rename_i o0 c' hk
      cases h
      obtain ⟨h1, h2, _⟩ := hob
      subst h1
      obtain ⟨b', c'', hb', hob'⟩ := hc 0 nm o rfl rfl
      rw [hb] at hb'; cases hb'
      obtain ⟨xs, hxs, hw⟩ := hob'.window hk
      have hl := qxu hxs
      refine ⟨xs.take (n * sz), denC_take hxs _, by simp; omega, fun w' hw' => ⟨rfl, ?_⟩⟩
      have hwin : ∀ (i : Nat) x, xs[i]? = some x → w'.cell? ⟨b, 0 + i, none⟩ = some x := fun i x hi => by
        rw [← hw i x hi]; simp only [World.cell?, hw']
      have := run_window_cells (P := P) (n := n * sz) hwin (Nat.le_refl 0) (by omega)
      simpa [Builtin.firstCells] using this
    · cases h
  · rename_i nm n' o
    split at h
    · rename_i c hkn
      cases h
      obtain ⟨h1, _⟩ := hob
      obtain ⟨b, k, hb, ho⟩ := hc 0 nm o rfl rfl
      obtain ⟨b', k', hb', hx⟩ := dsl_den hx
      rw [hb] at hb'; cases hb'
      rcases hx with ⟨hk, h0, rfl⟩ | ⟨hk, hle, rfl⟩
      · subst h0
        exact ⟨[], by rw [Nat.zero_mul]; exact ⟨rfl, rfl⟩, by simp, fun w' hw' => ⟨rfl, by cases k.a <;> simp [Builtin.firstCells, loadCells, loadCellsFrom]⟩⟩
      obtain ⟨xs, hxs, hwin⟩ := ho.windowD hkn hk
      have hl := qxu hxs
      refine ⟨xs.take (n * sz), denC_take hxs _, by simp; omega, fun w' hw' => ?_⟩
      refine ⟨rfl, ?_⟩
      have hwin' : ∀ (i : Nat) x, xs[i]? = some x → w'.cell? ⟨b, k.o + i, none⟩ = some x := fun i x hi => by
        rw [← hwin i x hi]; simp only [World.cell?, hw']
      have := run_window_cells (P := P) (n := n * sz) (off := k.o) hwin' (Nat.le_refl _) (by omega)
      simpa [Builtin.firstCells] using this
    · cases h
  · rename_i nm w0 off len o
    obtain ⟨b, k, hb, hz, hle, rfl⟩ := vsl_den hx
    split at h
    · rename_i c te sz'
      cases h
      obtain ⟨rfl, h2, _⟩ := hob
      obtain ⟨b', k', hb', xs, ys, hxs, ⟨m, hw, _⟩, _, ho, _⟩ := hc 0 nm _ rfl rfl
      rw [hb] at hb'; cases hb'
      have hl := qxu hxs
      refine ⟨(xs.drop (off * w0)).take (n * w0), denC_take (denC_drop hxs _) _, by simp; omega, fun w' hw' => ⟨rfl, ?_⟩⟩
      have hwin : ∀ (i : Nat) x, xs[i]? = some x → w'.cell? ⟨b, 0 + i, none⟩ = some x := fun i x hi => by
        have hlt := (List.getElem?_eq_some_iff.1 hi).1
        rw [Nat.zero_add, cell_of_block (by rw [hw']; exact hw), List.getElem?_toArray, List.getElem?_append_left hlt, hi]
      by_cases he : off = k.n
      · have hn0 : n = 0 := by omega
        subst hn0
        have := run_loadCells_window (P := P) (w := w') (b := b) (off := k.o + (if off = k.n then 0 else off * w0)) [] (fun i x hi => by simp at hi)
        simpa [Builtin.firstCells] using this
      · have := run_window_cells (P := P) (n := n * w0) (off := off * w0) hwin (Nat.zero_le _) (by omega)
        simp only [Builtin.firstCells, if_neg he, ho, Nat.zero_add]
        simpa using this
    · cases h
  · cases h
theorem cap_le {a sp : List Value} {n nc sz : Nat} (h0 : 0 < sz) (ha : a.length = n * sz) (h : (a ++ sp).length = nc * sz) : n ≤ nc := by
  have : n * sz ≤ nc * sz := by rw [← h, List.length_append]; omega
  exact Nat.le_of_mul_le_mul_right this h0
theorem vec_made {E : Env} {k b l : Nat} {c : Cap} (hz : c.z = false) (ho : c.o = 0) (h : l ≤ c.n) : den (E.set k (b, c)) (.vec k l) = some (.slice (some ⟨b, 0, none⟩) l c.n) := by
  simp only [den, Env.set_same, Option.bind_some]
  rw [if_pos ⟨hz, ho, h⟩]
theorem growBy_le (newLen : Nat) : ∀ (r c : Nat), c ≤ newLen + (newLen + 768) / 4 → Builtin.growBy newLen r c ≤ newLen + (newLen + 768) / 4
  | 0, c, h => h
  | r + 1, c, h => by
    unfold Builtin.growBy
    split
    · exact h
    · exact growBy_le newLen r _ (by omega)
theorem nextcap_le {need cap : Nat} (h : cap < need) : Builtin.nextslicecap need cap ≤ 2 * need := by
  unfold Builtin.nextslicecap
  split
  · omega
  · split
    · omega
    · have := growBy_le need 4 cap (by omega); omega
theorem run_append_grow {elem t0 t1 : TypeId} {tx : TypeDesc} {c : Call} {ie : TypeInfo} {X Z : Value} {base : Option Addr} {len cap n : Nat} {olds news zs : List Value} {ty : TypeId} (h0 : c.argTypes[0]? = some t0) (h1 : c.argTypes[1]? = some t1)
    (hu0 : P.underlying t0 = some (.slice elem)) (hu1 : P.underlying t1 = some tx) (htx : ∀ k, tx ≠ .int k) (hi : P.info? elem = some ie) (hz : ∀ w', (zeroValue elem).run P w' = .ok Z w') (hze : Z.cells = zs.toArray) (hzl : zs.length = ie.size)
    (hold : ∀ w' : World, w'.heap = w.heap → (Builtin.firstCells ie.size len (.slice base len cap)).run P w' = .ok olds.toArray w') (hol : olds.length = len * ie.size)
    (hnew : ∀ w' : World, w'.heap = w.heap → (Builtin.lenOf X).run P w' = .ok n w' ∧ (Builtin.firstCells ie.size n X).run P w' = .ok news.toArray w') (hnl : news.length = n * ie.size)
    (hroom : cap < len + n) (hb : 2 * (len + n) * ie.bytes ≤ 281474976710656) (hm : 2 * (len + n) < 9223372036854775808) :
    ∃ nc spare w', (Builtin.append_ c.argTypes ty #[.slice base len cap, X]).run P w = .ok (.slice (some ⟨w.heap.size, 0, none⟩) (len + n) nc) w' ∧ w'.heap = w.heap.push (.cells (olds ++ news ++ spare).toArray elem) ∧
      (olds ++ news ++ spare).length = nc * ie.size ∧ w'.os = w.os ∧ w'.tape = w.tape ∧ w'.output = w.output := by
  have hsz : P.cellsOf elem = ie.size := by simp [Program.cellsOf, hi]
  have hcap : ¬ Builtin.nextslicecap (len + n) cap * ie.bytes > 2 ^ 48 := by
    have h1 := nextcap_le hroom
    have h2 := Nat.mul_le_mul_right ie.bytes h1
    show ¬ _ > 281474976710656
    omega
  have hbig : ¬ ((((len + n : Nat) : Int) > IntKind.i64.max) ∧ (false = true ∨ ie.bytes = 0)) := by
    rintro ⟨hh, _⟩
    have : IntKind.i64.max = 9223372036854775807 := by decide
    omega
  let q := Question.appendCap (len + n) cap elem
  let nc := q.cut (w.tape w.drawn q)
  have hnc : len + n ≤ nc := by
    show len + n ≤ (len + n) + _ % _
    omega
  let w1 : World := { w with drawn := w.drawn + 1 }
  obtain ⟨hn1, _⟩ := hnew w rfl
  obtain ⟨_, hn2⟩ := hnew w1 rfl
  have ho2 := hold w1 rfl
  let spare := (Builtin.zeroCells zs.toArray (nc - (len + n))).toList
  have hspl : spare.length = (nc - (len + n)) * ie.size := by simp [spare, Builtin.zeroCells, hzl]
  refine ⟨nc, spare, { w1 with heap := w1.heap.push (.cells (olds ++ news ++ spare).toArray elem) }, ?_, rfl, ?_, rfl, rfl, rfl⟩
  · have hmi : (match tx with | .int _ => true | _ => false) = false := by
      cases tx <;> first | rfl | exact absurd rfl (htx _)
    have hforced : q.forced = false := rfl
    have earr : olds.toArray ++ news.toArray ++ Builtin.zeroCells zs.toArray (nc - (len + n)) = (olds ++ news ++ spare).toArray := by
      apply Array.ext'; simp [spare]
    simp only [Builtin.append_, h0, h1, List.getElem?_toArray, List.getElem?_cons_zero, List.getElem?_cons_succ, Sem.run_bind, run_underlying' hu0, Result.andThen_ok, run_sizeOf' hi, run_underlying' hu1, Sem.run_pure]
    rw [if_neg (by decide)]
    simp only [Sem.run_bind, hn1, Result.andThen_ok]
    rw [if_neg (by omega)]
    simp only [Sem.run_bind, typeInfo, run_program, Result.andThen_ok, hi, Sem.run_pure]
    rw [if_neg hbig]
    simp only [Sem.run_bind, Sem.run_pure, run_program, Result.andThen_ok, hi]
    rw [if_neg hcap]
    have hch : (choose (Question.appendCap (len + n) cap elem)).run P w = .ok nc w1 := by
      rw [run_choose]; rfl
    simp only [Sem.run_bind, Sem.run_pure, run_program, Result.andThen_ok, hi, hch, run_askRoom, hsz, ho2, Bool.not_false, if_true, hn2, hz, hze, earr, newRow, run_newObj]
    rfl
  · simp only [List.length_append, hspl, hol, hnl]
    rw [← Nat.add_mul, ← Nat.add_mul]; congr 1; omega
theorem run_append_room {elem t0 t1 : TypeId} {tx : TypeDesc} {c : Call} {ie : TypeInfo} {X : Value} {b len cap n : Nat} {cells news : List Value} {ty te : TypeId} (h0 : c.argTypes[0]? = some t0) (h1 : c.argTypes[1]? = some t1)
    (hu0 : P.underlying t0 = some (.slice elem)) (hu1 : P.underlying t1 = some tx) (htx : ∀ k, tx ≠ .int k) (hi : P.info? elem = some ie)
    {mk : Nat × Nat} (hw : w.heap[b]? = some (.cells cells.toArray te mk)) (hmk : okM mk cells.length)
    (hnew : (Builtin.lenOf X).run P w = .ok n w ∧ (Builtin.firstCells ie.size n X).run P w = .ok news.toArray w) (hnl : news.length = n * ie.size) (hone : allOne news = true)
    (hroom : len + n ≤ cap) (hcl : cells.length = cap * ie.size) :
    ∃ w', (Builtin.append_ c.argTypes ty #[.slice (some ⟨b, 0, none⟩) len cap, X]).run P w = .ok (.slice (some ⟨b, 0, none⟩) (len + n) cap) w' ∧ w'.heap[b]? = some (.cells (over cells (len * ie.size) news).toArray te mk) ∧ Upd b w w' := by
  have hsz : P.cellsOf elem = ie.size := by simp [Program.cellsOf, hi]
  have hle : len * ie.size + n * ie.size ≤ cap * ie.size := by
    rw [← Nat.add_mul]; exact Nat.mul_le_mul_right _ hroom
  obtain ⟨w', hr, hw', hu⟩ := run_storeCells (P := P) news cells (len * ie.size) 0 w hw hmk (by omega) hone
  refine ⟨w', ?_, by simpa using hw', hu⟩
  simp only [Builtin.append_, h0, h1, List.getElem?_toArray, List.getElem?_cons_zero, List.getElem?_cons_succ, Sem.run_bind, run_underlying' hu0, Result.andThen_ok, run_sizeOf' hi, run_underlying' hu1, Sem.run_pure]
  have hmi : (match tx with | .int _ => true | _ => false) = false := by
    cases tx <;> first | rfl | exact absurd rfl (htx _)
  rw [if_neg (by decide)]
  simp only [Sem.run_bind, hnew.1, Result.andThen_ok]
  rw [if_pos hroom]
  simp only [Sem.run_bind, Bool.not_false, if_true, hsz, hnew.2, Result.andThen_ok, Addr.add_none, Nat.zero_add, hr, Sem.run_pure]
theorem execOp_append {o : Oper} {ρ : Operand → Value} {c : Call} {p q : Operand} {v : Value} {w' : World} (ho : o.op = .call c) (hc : c.callee = .builtin .append) (ha : c.args.toList = [p, q])
    (h : (Builtin.append_ c.argTypes o.type #[ρ p, ρ q]).run P w = .ok v w') : (execOp ρ o).run P w = .ok (.value v) w' := by
  have ha' : c.args = #[p, q] := by
    cases hh : c.args with | mk l => rw [hh] at ha; simp at ha; rw [ha]
  simp only [execOp, ho, resolve, hc, ha', Sem.run_bind, Sem.run_pure, Result.andThen_ok, invoke, builtin]
  simp [h]
theorem good_append {o : Oper} {ρ : Operand → Value} {c : Call} {p q : Operand} {h : Hint} {s x : AV} {cs : List AObj} {r : Res} {F : Foot} (ho : o.op = .call c) (hcal : c.callee = .builtin .append) (ha : c.args.toList = [p, q])
    (hs : den E s = some (ρ p)) (hx : den E x = some (ρ q)) (hF : F = ⟨s.name ++ x.name, if s.isVec then s.name else [], h.nm⟩) (hp : Pre E w F cs) (hr : appendA P h c s x cs = some r) (kk : AllP r.obl) :
    Good E w F r.upd r.new r.val ((execOp ρ o).run P w) := by
  unfold appendA at hr
  split at hr
  · rename_i e tx k he htx hnm
    simp only [Option.bind_eq_some_iff] at he htx
    obtain ⟨t0, h0, hu0⟩ := he
    obtain ⟨t1, h1, hu1⟩ := htx
    split at hr
    · cases hr
    · rename_i hnint
      have htx : ∀ k, tx ≠ .int k := fun k e => hnint (by rw [e]; rfl)
      split at hr
      rotate_left
      · cases hr
      rename_i ie z hi hz
      split at hr
      · cases hr
      · rename_i hcond
        simp only [Bool.not_eq_true', Bool.not_eq_false, Bool.and_eq_true, beq_iff_eq, decide_eq_true_eq] at hcond
        obtain ⟨⟨hn, hl⟩, hsz⟩ := hcond
        obtain ⟨Z, _, hd⟩ := run_zeroValue (w := w) (E := E) hz
        have hZ : ∀ w', (zeroValue e).run P w' = .ok Z w' := fun w' => by
          obtain ⟨Z', hZ', hd'⟩ := run_zeroValue (w := w') (E := E) hz
          rw [hd] at hd'; cases hd'; exact hZ'
        obtain ⟨zs, hzs, hze⟩ := notTuple_cells hn hd
        have hzl : zs.length = ie.size := (qxu hzs).trans hl
        have hEk : E k = none := hp.fresh k (by rw [hF, hnm]; simp)
        split at hr
        ·
          split at hr
          · rename_i ob n new hel
            cases hr
            obtain ⟨g1, g2, g3, g4⟩ := grow_cases kk
            obtain ⟨hob, h4, h5, h6, _⟩ := qzu.1 g1 |>.imp id id
            obtain ⟨xs, hxs, hxl, hrun⟩ := elemsA_run (w := w) hel hob hx (fun i nm o hi' ho' => hp.objs i nm o (by rw [hF]; simpa [AV.name] using hi') ho')
            have hxsl : xs.length = n * ie.size := (qxu hxs).trans hxl
            obtain ⟨nc, spare, w', hr', hheap, hlen, hos, ht, hout⟩ := run_append_grow (w := w) (base := none) (len := 0) (cap := 0) (olds := []) (ty := o.type) h0 h1 hu0 hu1 htx hi hZ hze hzl (fun w' _ => rfl) (by simp) hrun hxsl (by omega) (by simpa using h5) (by simpa using h6)
            have hp0 : ρ p = .slice none 0 0 := by simpa [den] using hs.symm
            rw [g2, g3, g4]
            refine ⟨_, w', E.set k (w.heap.size, { n := nc }), .inl (execOp_append ho hcal ha (by rw [hp0]; exact hr')), by rw [Nat.zero_add]; exact vec_made rfl rfl (cap_le hsz (a := [] ++ xs) (by simpa using hxsl) hlen), ?_⟩
            rw [hF, hnm]
            refine .push hheap hos ht hout hEk ⟨xs, spare, denC_mono (.set hEk) hxs, ⟨(0, 0), by simpa using push_new hheap, .inl rfl⟩, by simpa using hlen, rfl, rfl⟩ (fun e => absurd rfl e)
          · cases hr
        ·
          rename_i nm len old te sz cx
          split at hr
          · cases hr
          rename_i hte
          have hte : te = e := by simpa using hte
          subst hte
          split at hr
          · rename_i hsze
            have hsze : sz = ie.size := by simpa using hsze
            subst hsze
            split at hr
            · rename_i ob n new hel
              cases hr
              obtain ⟨g1, g2, g3, g4⟩ := grow_cases kk
              obtain ⟨hob, h4, h5, h6, _⟩ := qzu.1 g1 |>.imp id id
              obtain ⟨b, c', hb, hpx⟩ := vec_den hs
              have hrd : F.rd = nm :: x.name := by rw [hF]; rfl
              have hwr : F.wr = true := by rw [hF]; rfl
              obtain ⟨b', c'', hb', hobj⟩ := hp.objs 0 nm (.vec old te ie.size) (by rw [hrd]; rfl) rfl
              rw [hb] at hb'; cases hb'
              obtain ⟨os, ys, hos, ⟨mk, hwo, hmk⟩, hlo, hoz⟩ := hobj
              have hosl : os.length = len * ie.size := (qxu hos).trans h4
              obtain ⟨xs, hxs, hxl, hrun⟩ := elemsA_run (w := w) hel hob hx (fun i m o hi' ho' => hp.objs (i + 1) m o (by rw [hrd]; simpa using hi') (by simpa using ho'))
              have hxsl : xs.length = n * ie.size := (qxu hxs).trans hxl
              have hdead : ∀ (i n : Nat) (o : AObj), F.rd[i]? = some n → (AObj.dead :: cx)[i]? = some o → ∃ b c, E n = some (b, c) ∧ ObjR E w b c o := fun i m o h1 h2 => by
                cases i with
                | zero => rw [hrd] at h1; simp at h1 h2; subst h1; subst h2; exact ⟨_, _, hb, trivial⟩
                | succ i => exact hp.objs (i + 1) m o h1 (by simpa using h2)
              rw [g2, g3, g4]
              by_cases hroom : len + n ≤ c'.n
              · obtain ⟨w', hr', hw', hu⟩ := run_append_room (w := w) (ty := o.type) h0 h1 hu0 hu1 htx hi hwo hmk (hrun w rfl) hxsl hxs.2 hroom hlo
                refine ⟨_, w', E.set k (b, c'), .inl (execOp_append ho hcal ha (by rw [hpx]; exact hr')), vec_made hoz.2 hoz.1 hroom, ?_⟩
                have hle : len * ie.size + n * ie.size ≤ c'.n * ie.size := by rw [← Nat.add_mul]; exact Nat.mul_le_mul_right _ hroom
                have hyl : n * ie.size ≤ ys.length := by simp at hlo; omega
                have hov : over (os ++ ys) (len * ie.size) xs = os ++ xs ++ ys.drop (n * ie.size) := by
                  rw [over_eq _ _ _ (by simp; omega), hxsl, ← hosl, List.take_left, List.drop_append]
                  simp
                exact {
                  le := .set hEk
                  only := fun m hm => Env.set_other E _ (by rw [hF, hnm] at hm; simpa using hm)
                  wrote := fun _ i m o h1 h2 => by
                    cases i with
                    | zero => rw [hrd] at h1; simp at h1 h2; subst h1; subst h2; exact ⟨_, _, hb, trivial⟩
                    | succ i =>
                      have h2' : cx[i]? = some o := by simpa using h2
                      obtain ⟨b2, c2, hb2, ho2⟩ := hp.objs (i + 1) m o h1 (by simpa using h2)
                      refine ⟨b2, c2, hb2, ?_⟩
                      cases hl2 : o.live with
                      | false => cases o <;> simp [AObj.live] at hl2; trivial
                      | true =>
                        have hne : nm ≠ m := by
                          have := hp.rdNodup hwr
                          rw [hrd] at this h1
                          rintro rfl
                          exact (List.nodup_cons.1 this).1 (List.mem_of_getElem? (by simpa using h1))
                        have := hp.apart 0 (i + 1) nm m (.vec old te ie.size) o b c' b2 c2 (by rw [hrd]; rfl) h1 rfl (by simpa using h2) rfl hl2 hb hb2 hne
                        exact (ho2.block (fun _ ht => hu.keep b2 (fun e => this (e ▸ ht))) fun _ k hk => hu.keep k (fun e => (hp.nest m b2 c2 k hb2 hk).2 0 nm _ c' (by rw [hrd]; rfl) rfl rfl (e ▸ hb))).mono (.set hEk)
                  made := fun i m o h1 h2 => by
                    rw [hF, hnm] at h1
                    cases i with
                    | succ i => simp at h1
                    | zero =>
                      simp at h1 h2; subst h1; subst h2
                      refine ⟨_, _, Env.set_same E _ _, ⟨os ++ xs, ys.drop (n * ie.size), denC_append (denC_mono (.set hEk) hos) (denC_mono (.set hEk) hxs), ⟨mk, by rw [hw', hov], by rw [← hov, over_length]; exact hmk⟩, ?_, hoz⟩, fun _ => .inr <| .inl ⟨hwr, 0, nm, c', by rw [hrd]; rfl, rfl, hb⟩⟩
                      rw [← hlo]; simp [hxsl]; omega
                  keep := fun j hj hne => hu.keep j (by rintro rfl; exact hne nm (by rw [hF]; simp [AV.isVec, AV.name]) c' hb)
                  newApart := fun i j n m o1 o2 b c b' c' h1 h2 _ _ _ _ _ _ hne => by
                    rw [hF, hnm] at h1 h2
                    cases i with
                    | zero => cases j with
                      | zero => exact absurd rfl hne
                      | succ j => simp at h2
                    | succ i => simp at h1
                  bare := fun n b3 c3 k3 hn he hu3 => by
                    rw [hF, hnm] at hn; simp only [List.mem_singleton] at hn; subst hn
                    rw [Env.set_same] at he; cases he; exact ⟨nm, _, _, hb, hu3⟩
                  grow := by rw [hu.size]; exact Nat.le_refl _
                  os := hu.os, tape := hu.tape, output := hu.output }
              · have hold : ∀ w' : World, w'.heap = w.heap → (Builtin.firstCells ie.size len (.slice (some ⟨b, 0, none⟩) len c'.n)).run P w' = .ok os.toArray w' := fun w' hw' => by
                  have := run_loadCells_window (P := P) (w := w') (b := b) (off := 0) os (fun i x hi => by
                    have hlt := (List.getElem?_eq_some_iff.1 hi).1
                    rw [Nat.zero_add, cell_of_block (by rw [hw']; exact hwo), List.getElem?_toArray, List.getElem?_append_left hlt, hi])
                  rw [hosl] at this
                  simpa [Builtin.firstCells] using this
                obtain ⟨nc, spare, w', hr', hheap, hlen, hos', ht, hout⟩ := run_append_grow (w := w) (base := some ⟨b, 0, none⟩) (len := len) (cap := c'.n) (olds := os) (ty := o.type) h0 h1 hu0 hu1 htx hi hZ hze hzl hold hosl hrun hxsl (by omega) h5 h6
                refine ⟨_, w', E.set k (w.heap.size, { n := nc }), .inl (execOp_append ho hcal ha (by rw [hpx]; exact hr')), vec_made rfl rfl (cap_le hsz (a := os ++ xs) (by rw [List.length_append, hosl, hxsl, Nat.add_mul]) hlen), ?_⟩
                have hpush := Eff.push (rd := F.rd) (ws := [nm]) (upd := AObj.dead :: cx) (o := .vec (old ++ new) te ie.size) (c := { n := nc }) hheap hos' ht hout hEk ⟨os ++ xs, spare, denC_append (denC_mono (.set hEk) hos) (denC_mono (.set hEk) hxs), ⟨(0, 0), push_new hheap, .inl rfl⟩, hlen, rfl, rfl⟩ (fun _ => hdead)
                rw [hrd] at hpush
                rw [hF, hnm]
                exact hpush
            · cases hr
          · cases hr
        ·
          rename_i nm off len cap ob' cx
          split at hr
          · rename_i o0 oc ob n new hk hel
            cases hr
            obtain ⟨g1, g2, g3, g4⟩ := grow_cases kk
            obtain ⟨hob, h4, h5, h6, h7, h8, h9, _⟩ := qzu.1 g1 |>.imp id id
            subst h6
            obtain ⟨b, c', hb, hpx⟩ := slice_den hs
            have hrd : F.rd = nm :: x.name := by rw [hF]; rfl
            obtain ⟨b', c'', hb', hobj⟩ := hp.objs 0 nm ob' (by rw [hrd]; rfl) rfl
            rw [hb] at hb'; cases hb'
            obtain ⟨os, hos, hwin⟩ := hobj.window hk
            have hosl := qxu hos
            obtain ⟨xs, hxs, hxl, hrun⟩ := elemsA_run (w := w) hel hob hx (fun i m o hi' ho' => hp.objs (i + 1) m o (by rw [hrd]; simpa using hi') (by simpa using ho'))
            have hxsl : xs.length = n * ie.size := (qxu hxs).trans hxl
            have hold : ∀ w' : World, w'.heap = w.heap → (Builtin.firstCells ie.size len (.slice (some ⟨b, off, none⟩) len len)).run P w' = .ok ((os.drop (off - o0)).take (len * ie.size)).toArray w' := fun w' hw' => by
              have hwin' : ∀ (i : Nat) x, os[i]? = some x → w'.cell? ⟨b, o0 + i, none⟩ = some x := fun i x hi => by
                rw [← hwin i x hi]; simp only [World.cell?, hw']
              have := run_window_cells (P := P) (n := len * ie.size) hwin' h4 (by omega)
              simp only [Builtin.firstCells, this]
            obtain ⟨nc, spare, w', hr', hheap, hlen, hos', ht, hout⟩ := run_append_grow (w := w) (base := some ⟨b, off, none⟩) (len := len) (cap := len) (ty := o.type) h0 h1 hu0 hu1 htx hi hZ hze hzl hold (by simp; omega) hrun hxsl (by omega) h8 h9
            rw [g2, g3, g4]
            refine ⟨_, w', E.set k (w.heap.size, { n := nc }), .inl (execOp_append ho hcal ha (by rw [hpx]; exact hr')), vec_made rfl rfl (cap_le hsz (a := (os.drop (off - o0)).take (len * ie.size) ++ xs) (by rw [List.length_append, hxsl, Nat.add_mul]; congr 1; simp; omega) hlen), ?_⟩
            rw [hF, hnm]
            exact .push hheap hos' ht hout hEk ⟨_, spare, denC_append (denC_mono (.set hEk) (denC_take (denC_drop hos _) _)) (denC_mono (.set hEk) hxs), ⟨(0, 0), push_new hheap, .inl rfl⟩, hlen, rfl, rfl⟩ (fun e => absurd rfl e)
          · cases hr
        · cases hr
  ·
    rename_i e tx he htx hnm
    simp only [Option.bind_eq_some_iff] at he htx
    obtain ⟨t0, h0, hu0⟩ := he
    obtain ⟨t1, h1, hu1⟩ := htx
    split at hr
    · cases hr
    · rename_i hnint
      have htx : ∀ k, tx ≠ .int k := fun k e => hnint (by rw [e]; rfl)
      split at hr
      · rename_i cs ie hi
        split at hr
        · rename_i ob n new hel
          cases hr
          obtain ⟨hob, hn, _⟩ := qzu.1 kk |>.imp id id
          have hn : n = 0 := hn
          subst hn
          obtain ⟨xs, hxs, hxl, hrun⟩ := elemsA_run (P := P) (w := w) hel hob hx (fun i nm o hi' ho' => hp.objs i nm o (by rw [hF]; simpa [AV.name] using hi') ho')
          have hp0 : ρ p = .slice none 0 0 := by simpa [den] using hs.symm
          refine Good.pure (by rw [hF]; rfl) (by rw [hF]; exact hnm) (execOp_append ho hcal ha (v := .slice none 0 0) ?_) rfl
          rw [hp0]
          obtain ⟨r1, r2⟩ := hrun w rfl
          have hsz : P.cellsOf e = ie.size := by simp [Program.cellsOf, hi]
          simp only [Builtin.append_, h0, h1, List.getElem?_toArray, List.getElem?_cons_zero, List.getElem?_cons_succ, Sem.run_bind, run_underlying' hu0, Result.andThen_ok, run_sizeOf' hi, run_underlying' hu1, Sem.run_pure]
          have hmi : (match tx with | .int _ => true | _ => false) = false := by
            cases tx <;> first | rfl | exact absurd rfl (htx _)
          rw [if_neg (by decide)]
          simp only [Sem.run_bind, r1, Result.andThen_ok, Bool.not_false, if_true, hsz, r2, Nat.zero_add, Nat.le_refl, Sem.run_pure]
        · cases hr
      · rename_i ie nm off len cap ob' cx hi
        split at hr
        · rename_i ob n new hel
          cases hr
          obtain ⟨hob, hn, hlc, _⟩ := qzu.1 kk |>.imp id id
          have hn : n = 0 := hn
          subst hn
          have hrd : F.rd = nm :: x.name := by rw [hF]; rfl
          obtain ⟨b, c', hb, hpx⟩ := slice_den hs
          obtain ⟨xs, hxs, hxl, hrun⟩ := elemsA_run (P := P) (w := w) hel hob hx (fun i m o hi' ho' => hp.objs (i + 1) m o (by rw [hrd]; simpa using hi') (by simpa using ho'))
          have hx0 : xs = [] := List.eq_nil_of_length_eq_zero (by rw [qxu hxs, hxl]; omega)
          subst hx0
          refine Good.pure (by rw [hF]; rfl) (by rw [hF]; exact hnm) (execOp_append ho hcal ha (v := .slice (some ⟨b, off, none⟩) len cap) ?_) (by rw [← hpx]; exact hs)
          rw [hpx]
          obtain ⟨r1, r2⟩ := hrun w rfl
          have hsz : P.cellsOf e = ie.size := by simp [Program.cellsOf, hi]
          simp only [Builtin.append_, h0, h1, List.getElem?_toArray, List.getElem?_cons_zero, List.getElem?_cons_succ, Sem.run_bind, run_underlying' hu0, Result.andThen_ok, run_sizeOf' hi, run_underlying' hu1, Sem.run_pure]
          rw [if_neg (by decide)]
          simp only [Sem.run_bind, r1, Result.andThen_ok]
          rw [if_pos (by omega)]
          simp only [Sem.run_bind, Bool.not_false, if_true, hsz, r2, Result.andThen_ok, Sem.run_pure]
          rfl
        · cases hr
      · cases hr
  · cases hr
end Go.Proofs.YtphhepnldndbhaaGreatDoor.Sx
set_option linter.unusedVariables false
namespace Go.Proofs.YtphhepnldndbhaaGreatDoor.Sx
open Go
variable {P : Program} {E : Env} {w : World}
theorem Eff.fresh {w' : World} {rd ws : List Nat} {k : Nat} {c : Cap} {upd : List AObj} {o : AObj} (hold : ∀ j : Nat, j < w.heap.size → w'.heap[j]? = w.heap[j]?) (hg : w.heap.size ≤ w'.heap.size) (hos : w'.os = w.os) (ht : w'.tape = w.tape) (hout : w'.output = w.output)
    (hk : E k = none) (ho : ObjR (E.set k (w.heap.size, c)) w' w.heap.size c o)
    (hu : ws ≠ [] → ∀ (i n : Nat) (o : AObj), rd[i]? = some n → upd[i]? = some o → ∃ b c, E n = some (b, c) ∧ ObjR E w b c o)
    (hbare : c.bare := by exact Cap.bare_of fun _ _ => rfl) :
    Eff E (E.set k (w.heap.size, c)) w w' ⟨rd, ws, [k]⟩ upd [o] :=
  { le := .set hk
    only := fun n hn => Env.set_other E _ (by simpa using hn)
    wrote := fun e i n o hr hup => by
      obtain ⟨b, c, he, hob⟩ := hu (by intro h0; rw [h0] at e; cases e) i n o hr hup
      refine ⟨b, c, he, ?_⟩
      cases hl : o.live with
      | true => exact (hob.block (fun h1 h2 => hold _ (hob.lt h1 h2)) fun h1 k hk => hold _ (hob.ltN h1 hk)).mono (.set hk)
      | false => cases o <;> simp [AObj.live] at hl; trivial
    made := fun i n o' h1 h2 => by
      cases i with
      | zero => simp at h1 h2; subst h1; subst h2; exact ⟨_, _, Env.set_same E _ _, ho, fun _ => .inl (Nat.le_refl _)⟩
      | succ i => simp at h1
    keep := fun k hk _ => hold k hk
    newApart := fun i j n m o1 o2 b c b' c' h1 h2 _ _ _ _ _ _ hne => by
      cases i with
      | zero => cases j with
        | zero => exact absurd rfl hne
        | succ j => simp at h2
      | succ i => simp at h1
    bare := fun n b c1 k1 hn he hu => by
      simp only [List.mem_singleton] at hn; subst hn
      rw [Env.set_same] at he; cases he; exact absurd hu (hbare _)
    grow := hg, os := hos, tape := ht, output := hout }
theorem denL_u8s (s : List UInt8) : denL E (u8s s) = some (s.map fun b => Value.int .u8 b.toNat) := by
  induction s with
  | nil => rfl
  | cons b s ih => simp only [u8s, List.map_cons]; exact qxz.2 ⟨_, _, rfl, ih, rfl⟩
theorem denC_u8s (s : List UInt8) : denC E (u8s s) (s.map fun b => Value.int .u8 b.toNat) := ⟨denL_u8s s, by simp [allOne, Value.oneCell']⟩
theorem good_bytes {o : Oper} {ρ : Operand → Value} {src dst e : TypeId} {p : Operand} {d : TypeDesc} {s : List UInt8} {k : Nat} (ho : o.op = .convert src dst p) (hp : den E (.str s) = some (ρ p)) (hs : P.underlying src = some d) (hd : P.underlying dst = some (.slice e))
    (he : P.underlying e = some (.int .u8)) (hk : E k = none) : Good E w ⟨[], [], [k]⟩ [] [.vec (u8s s) e 1] (.vec k s.length) ((execOp ρ o).run P w) := by
  have hp' : ρ p = .string ⟨s.toArray⟩ := by simpa [den] using hp.symm
  refine ⟨.slice (some ⟨w.heap.size, 0, none⟩) s.length (grownCap w s.length 0 e), Lib.bytesWorld w e ⟨s.toArray⟩, E.set k (w.heap.size, { n := grownCap w s.length 0 e }), .inl ?_, vec_made rfl rfl (by have := grownCap_ge w s.length 0 e; omega), .fresh (fun j hj => Lib.bytesWorld_at_old w e _ j hj) (by rw [Lib.bytesWorld_size]; omega) ?_ ?_ ?_ hk ?_ (fun e => absurd rfl e)⟩
  · simp only [execOp, ho, Sem.run_bind, hp', Lib.run_convert_string_bytes w src dst e _ hs hd he, Result.andThen_ok, Sem.run_pure]
    rfl
  · rfl
  · rfl
  · rfl
  · have hsz : (Lib.bytesCells w e ⟨s.toArray⟩) = ((s.map fun b => Value.int .u8 b.toNat) ++ List.replicate (grownCap w s.length 0 e - s.length) (Value.int .u8 0)).toArray := by
      simp [Lib.bytesCells, ByteArray.size]
    have hge := grownCap_ge w s.length 0 e
    refine ⟨s.map fun b => Value.int .u8 b.toNat, List.replicate (grownCap w s.length 0 e - s.length) (Value.int .u8 0), denC_u8s s, ⟨((Lib.bytesCells w e ⟨s.toArray⟩).size, (Lib.bytesCells w e ⟨s.toArray⟩).size + 1), ?_, .inr ?_⟩, ?_, rfl, rfl⟩
    · rw [Lib.bytesWorld_at_new, ← hsz]
    · simp [hsz]
    · simp; omega
theorem foldl_bytes : ∀ (s : List UInt8) (acc : ByteArray), ((s.map fun b => (b.toNat : Int)).foldl (fun (r : ByteArray) n => r.push (UInt8.ofNat n.toNat)) acc) = ⟨acc.data ++ s.toArray⟩
  | [], acc => by simp
  | b :: s, acc => by
    simp only [List.map_cons, List.foldl_cons]
    rw [foldl_bytes s]
    apply ByteArray.ext
    simp
theorem good_string {o : Oper} {ρ : Operand → Value} {src dst e : TypeId} {p : Operand} {x : AV} {ob : AObj} {F : Foot} {oo : List Prop} {n : Nat} {c : List AV} {s : List UInt8} (ho : o.op = .convert src dst p) (hx : den E x = some (ρ p)) (hs : P.underlying src = some (.slice e)) (hd : P.underlying dst = some .string)
    (he : P.underlying e = some (.int .u8)) (hF : F = ⟨x.name, [], []⟩) (hp : Pre E w F [ob]) (hel : elemsA 1 x [ob] = some (oo, n, c)) (hob : AllP oo) (hc : c = u8s s) (hnd : x.isDsl = false) : Good E w F [ob] [] (.str s) ((execOp ρ o).run P w) := by
  obtain ⟨xs, hxs, hl, hrun⟩ := elemsA_run (w := w) hel hob hx (fun i nm o' h1 h2 => hp.objs i nm o' (by rw [hF]; exact h1) h2)
  have hsl : ∃ a l cc, ρ p = .slice (some a) l cc ∧ n = l := by
    unfold elemsA at hel
    split at hel
    · rename_i h0; exact absurd h0 (by simp)
    · rename_i h0; exact absurd h0 (by simp)
    · obtain ⟨b, c', hb, e⟩ := slice_den hx
      split at hel
      · simp only [Option.some.injEq, Prod.mk.injEq] at hel; exact ⟨_, _, _, e, hel.2.1.symm⟩
      · cases hel
    · obtain ⟨b, c', hb, e⟩ := vec_den hx
      split at hel
      · simp only [Option.some.injEq, Prod.mk.injEq] at hel; exact ⟨_, _, _, e, hel.2.1.symm⟩
      · cases hel
    · simp [AV.isDsl] at hnd
    · obtain ⟨b, c', hb, _, _, e⟩ := vsl_den hx
      split at hel
      · simp only [Option.some.injEq, Prod.mk.injEq] at hel; exact ⟨_, _, _, e, hel.2.1.symm⟩
      · cases hel
    · cases hel
  subst hc
  obtain ⟨_, hr⟩ := hrun w rfl
  have hxe : xs = s.map fun b => Value.int .u8 b.toNat := by
    have := hxs.1; rw [denL_u8s] at this; exact (Option.some.inj this).symm
  refine Good.pure (by rw [hF]; rfl) (by rw [hF]) (x := .string ⟨s.toArray⟩) ?_ rfl
  obtain ⟨a, l, cc, e, rfl⟩ := hsl
  rw [e] at hr
  simp only [Builtin.firstCells, Nat.mul_one] at hr
  have := run_bytesToString (P := P) w a n cc (s.map fun b => (b.toNat : Int)) (by rw [hr, hxe]; simp [List.map_map]; try rfl)
  rw [foldl_bytes] at this
  simp only [execOp, ho, Sem.run_bind, e, run_convert_bytes_string w src dst _ _ _ _ hs he hd, this, Result.andThen_ok, Sem.run_pure]
  congr 3
  apply ByteArray.ext; simp
theorem operands_slice {t : TypeId} {x : Operand} {lo hi mx : Option Operand} : (Op.slice t x lo hi mx).operands.toList = x :: (lo.toArray ++ hi.toArray ++ mx.toArray).toList := by
  simp [Op.operands]
theorem ite_addr {b off m l sz : Nat} : (if m = l then (⟨b, off, none⟩ : Addr) else (⟨b, off, none⟩ : Addr).add (l * sz)) = ⟨b, if m = l then off else off + l * sz, none⟩ := by
  split
  · rfl
  · rw [Addr.add_none]
theorem take_extract (s : List UInt8) (l u : Nat) : (ByteArray.mk s.toArray).extract l u = ⟨((s.drop l).take (u - l)).toArray⟩ := by
  apply ByteArray.ext
  simp only [ByteArray.data_extract]
  simp [List.extract_eq_take_drop, List.extract_toArray]
end Go.Proofs.YtphhepnldndbhaaGreatDoor.Sx
namespace Go.Proofs.YtphhepnldndbhaaGreatDoor.Sx
open Go
variable {P : Program} {E : Env} {w : World}
theorem den2 {a b : AV} {x y : Value} (h : denL E [a, b] = some [x, y]) : den E a = some x ∧ den E b = some y := by
  obtain ⟨h1, h2⟩ := denL_split h; exact ⟨h1, den1 h2⟩
theorem good_sliceE {o : Oper} {ρ : Operand → Value} {t : TypeId} {p : Operand} {lo hi mx : Option Operand} {x : AV} {vs : List AV} {h : Hint} {cs : List AObj} {F : Foot} {r : Res} (ho : o.op = .slice t p lo hi mx)
    (hx : den E x = some (ρ p)) (hv : denL E vs = some ((lo.toArray ++ hi.toArray ++ mx.toArray).toList.map ρ)) (hf : foot h (.slice t p lo hi mx) (x :: vs) = some F) (hp : Pre E w F cs) (hm : mx.isSome → hi.isSome)
    (hr : sliceA P h t lo hi mx x vs cs = some r) (kk : AllP r.obl) : Good E w F r.upd r.new r.val ((execOp ρ o).run P w) := by
  have hrun : (execOp ρ o).run P w = ((Instr.sliceAt t (ρ p) (lo.map ρ) (hi.map ρ) (mx.map ρ)).run P w).andThen fun v w' => .ok (.value v) w' := by
    simp only [execOp, ho, Sem.run_bind]; rfl
  rw [hrun]
  unfold sliceA at hr
  split at hr
  · rename_i n e nm off hu
    simp only [foot, Option.some.injEq] at hf
    split at hr
    · cases hr
    rename_i hi'
    obtain ⟨ie, hi'⟩ := Option.ne_none_iff_exists'.1 (by simpa using hi')
    split at hr
    · rename_i ob l u m hb
      cases hr
      obtain ⟨b, c, hb', hpx⟩ := ptr_den hx
      refine good_fin (x := .slice (some ⟨b, if m = l then off else off + l * P.cellsOf e, none⟩) (u - l) (m - l)) (by rw [← hf]; rfl) (by rw [← hf]; rfl) kk fun hob => ⟨?_, by simp [den, hb']⟩
      obtain ⟨hs, _⟩ := boundsA_run (P := P) (w := w) (isSlice := false) hb hv hob hm
      simp only [Instr.sliceAt, Sem.run_bind, run_underlying' hu, Result.andThen_ok, hpx, Instr.sureAddr, Sem.run_pure, hs, run_sizeOf' hi', ite_addr]
    · cases hr
  · rename_i s hu
    simp only [foot, Option.some.injEq] at hf
    split at hr
    · rename_i ob l u m hb
      split at hr
      · rename_i hmx
        cases hr
        have hpx : ρ p = .string ⟨s.toArray⟩ := by simpa [den] using hx.symm
        refine good_fin (x := .string ⟨((s.drop l).take (u - l)).toArray⟩) (by rw [← hf]; rfl) (by rw [← hf]; rfl) kk fun hob => ⟨?_, rfl⟩
        obtain ⟨hs, _⟩ := boundsA_run (P := P) (w := w) (isSlice := false) hb hv hob hm
        have hmx' : mx = none := by simpa using hmx
        subst hmx'
        have hsz : (ByteArray.mk s.toArray).size = s.length := rfl
        simp only [Option.map_none] at hs
        simp only [Instr.sliceAt, Instr.slice, Sem.run_bind, run_underlying' hu, Result.andThen_ok, hpx, Option.map_none, Option.isSome_none, Bool.false_eq_true, if_false, hsz, hs, take_extract, Sem.run_pure]
      · cases hr
    · cases hr
  · rename_i e nm off len cap hu
    simp only [foot, Option.some.injEq] at hf
    split at hr
    · cases hr
    rename_i hi'
    obtain ⟨ie, hi'⟩ := Option.ne_none_iff_exists'.1 (by simpa using hi')
    split at hr
    · rename_i ob l u m hb
      cases hr
      obtain ⟨b, c, hb', hpx⟩ := slice_den hx
      refine good_fin (x := .slice (some ⟨b, if m = l then off else off + l * P.cellsOf e, none⟩) (u - l) (m - l)) (by rw [← hf]; rfl) (by rw [← hf]; rfl) kk fun hob => ⟨?_, by simp [den, hb']⟩
      obtain ⟨hs, _⟩ := boundsA_run (P := P) (w := w) (isSlice := true) hb hv hob hm
      simp only [Instr.sliceAt, Instr.slice, Sem.run_bind, run_underlying' hu, Result.andThen_ok, hpx, Sem.run_pure, hs, run_sizeOf' hi', Option.map_some]
      rw [← ite_addr]
      split <;> rfl
    · cases hr
  · rename_i e nm len ob hu
    simp only [foot, Option.some.injEq] at hf
    split at hr
    · cases hr
    rename_i hi'
    obtain ⟨ie, hi'⟩ := Option.ne_none_iff_exists'.1 (by simpa using hi')
    split at hr
    · rename_i c te sz
      split at hr
      · cases hr
      rename_i hsz
      have hsz : sz = P.cellsOf e := by simpa using hsz
      subst hsz
      split at hr
      · rename_i oo u hb
        obtain ⟨b, cc, hb', hpx⟩ := vec_den hx
        have key : AllP oo → 0 < P.cellsOf e → u * P.cellsOf e ≤ c.length → Good E w F r.upd [] (.vec nm u) (((Instr.sliceAt t (ρ p) ((none : Option Operand).map ρ) (hi.map ρ) ((none : Option Operand).map ρ)).run P w).andThen fun v w' => .ok (.value v) w') := by
          intro hoo hpos hle
          obtain ⟨b', c', hb2, hobj⟩ := hp.objs 0 nm _ (by rw [← hf]; rfl) rfl
          rw [hb'] at hb2; cases hb2
          have hu' : u ≤ cc.n := by
            obtain ⟨xs, ys, hx', _, hl, _⟩ := hobj
            have := qxu hx'
            have h2 : u * P.cellsOf e ≤ cc.n * P.cellsOf e := by rw [← hl, List.length_append]; omega
            exact Nat.le_of_mul_le_mul_right h2 hpos
          have hb1 : boundsA len cc.n none hi none vs = some (oo ++ [0 ≤ u, u ≤ cc.n, cc.n ≤ cc.n], 0, u, cc.n) := by
            unfold boundsA
            simp only [show ∀ d v, boundA d none v = some ([], d, v) from fun _ _ => rfl, hb, List.nil_append, List.append_nil]
          obtain ⟨hs, _⟩ := boundsA_run (P := P) (w := w) (isSlice := true) (ρ := ρ) hb1 (by simpa using hv) (qzu.2 ⟨hoo, Nat.zero_le _, hu', Nat.le_refl _, trivial⟩) (by simp)
          refine Good.pure (by rw [← hf]; rfl) (by rw [← hf]) (x := .slice (some ⟨b, 0, none⟩) u cc.n) ?_ (by have hcap := vec_cap hx hb'; simp only [den, hb', Option.bind_some]; rw [if_pos ⟨hcap.1, hcap.2.1, hu'⟩])
          simp only [Option.map_none] at hs
          simp only [Instr.sliceAt, Instr.slice, Sem.run_bind, run_underlying' hu, Result.andThen_ok, hpx, Sem.run_pure, Option.map_none, hs, run_sizeOf' hi', Option.map_some]
          congr 2
          simp [Addr.add_none]
        split at hr
        · rename_i v' hv'
          cases hr
          obtain ⟨k1, k2⟩ := qzu.1 kk
          obtain ⟨k2, k3, k4, _⟩ := k2
          have k4 : AV.vec nm u = v' := k4
          simp only [← k4]
          exact key k1 k2 k3
        · cases hr
          obtain ⟨k1, k2⟩ := qzu.1 kk
          obtain ⟨k2, k3, _⟩ := k2
          exact key k1 k2 k3
      · cases hr
    · rename_i p0
      split at hr
      · rename_i o1 l vs1 hb1
        split at hr
        · rename_i o2 u hb2
          cases hr
          obtain ⟨k1, k2⟩ := qzu.1 kk
          obtain ⟨k2, k3⟩ := qzu.1 k2
          obtain ⟨k3, k4, _⟩ := k3
          have k3 : l ≤ u := k3
          have k4 : u ≤ len := k4
          obtain ⟨b, cc, hb', hpx⟩ := vec_den hx
          obtain ⟨hz, ho0, hcap⟩ := vec_cap hx hb'
          have hbb : boundsA len cc.n (some p0) hi none vs = some (o1 ++ o2 ++ [] ++ [l ≤ u, u ≤ cc.n, cc.n ≤ cc.n], l, u, cc.n) := by
            unfold boundsA
            simp only [hb1, hb2, show ∀ d v, boundA d none v = some ([], d, v) from fun _ _ => rfl]
          obtain ⟨hs, _⟩ := boundsA_run (P := P) (w := w) (isSlice := true) (ρ := ρ) hbb (by simpa using hv) (qzu.2 ⟨qzu.2 ⟨qzu.2 ⟨k1, k2⟩, trivial⟩, by omega, by omega, Nat.le_refl _, trivial⟩) (by simp)
          refine Good.pure (by rw [← hf]; rfl) (by rw [← hf]) (x := .slice (some ⟨b, 0 + (if l = cc.n then 0 else l * P.cellsOf e), none⟩) (u - l) (cc.n - l)) ?_ (by simp only [den, hb', Option.bind_some]; rw [if_pos ⟨hz, by omega⟩, ho0])
          simp only [Option.map_none, Option.map_some] at hs
          simp only [Instr.sliceAt, Instr.slice, Sem.run_bind, run_underlying' hu, Result.andThen_ok, hpx, Sem.run_pure, Option.map_none, hs, run_sizeOf' hi', Option.map_some]
          by_cases hne : l = cc.n
          · subst hne; simp [Addr.add_none]
          · rw [if_neg hne, if_neg (by omega)]
            simp [Addr.add_none]
        · cases hr
      · cases hr
    · cases hr
  · rename_i e nm len hu
    simp only [foot, Option.some.injEq] at hf
    split at hr
    · cases hr
    rename_i hi'
    obtain ⟨ie, hi'⟩ := Option.ne_none_iff_exists'.1 (by simpa using hi')
    split at hr
    · split at hr
      · rename_i oo u hb
        cases hr
        obtain ⟨b, cc, hb', hx'⟩ := dsl_den hx
        rcases hx' with ⟨hz, h0, hpx⟩ | ⟨hz, hle, hpx⟩
        · subst h0
          refine good_fin (x := .slice cc.a 0 0) (by rw [← hf]; rfl) (by rw [← hf]; rfl) kk fun hob => ?_
          obtain ⟨hoo, hu0, _⟩ := qzu.1 hob
          have hu0 : u = 0 := by have : u ≤ 0 := hu0; omega
          subst hu0
          refine ⟨?_, by simp [den, hb', hz]⟩
          have hb1 : boundsA 0 0 none hi none vs = some (oo ++ [0 ≤ 0, 0 ≤ 0, 0 ≤ 0], 0, 0, 0) := by
            unfold boundsA
            simp only [show ∀ d v, boundA d none v = some ([], d, v) from fun _ _ => rfl, hb, List.nil_append, List.append_nil]
          obtain ⟨hs, _⟩ := boundsA_run (P := P) (w := w) (isSlice := true) (ρ := ρ) hb1 (by simpa using hv) (qzu.2 ⟨hoo, Nat.zero_le _, Nat.le_refl _, Nat.le_refl _, trivial⟩) (by simp)
          simp only [Option.map_none] at hs
          simp only [Instr.sliceAt, Instr.slice, Sem.run_bind, run_underlying' hu, Result.andThen_ok, hpx, Sem.run_pure, Option.map_none, hs, run_sizeOf' hi']
          simp
        · refine good_fin (x := .slice (some ⟨b, cc.o, none⟩) u cc.n) (by rw [← hf]; rfl) (by rw [← hf]; rfl) kk fun hob => ?_
          obtain ⟨hoo, hu0, _⟩ := qzu.1 hob
          have hu0 : u ≤ len := hu0
          refine ⟨?_, by simp [den, hb', hz, show u ≤ cc.n by omega]⟩
          have hb1 : boundsA len cc.n none hi none vs = some (oo ++ [0 ≤ u, u ≤ cc.n, cc.n ≤ cc.n], 0, u, cc.n) := by
            unfold boundsA
            simp only [show ∀ d v, boundA d none v = some ([], d, v) from fun _ _ => rfl, hb, List.nil_append, List.append_nil]
          obtain ⟨hs, _⟩ := boundsA_run (P := P) (w := w) (isSlice := true) (ρ := ρ) hb1 (by simpa using hv) (qzu.2 ⟨hoo, Nat.zero_le _, by omega, Nat.le_refl _, trivial⟩) (by simp)
          simp only [Option.map_none] at hs
          simp only [Instr.sliceAt, Instr.slice, Sem.run_bind, run_underlying' hu, Result.andThen_ok, hpx, Sem.run_pure, Option.map_none, hs, run_sizeOf' hi', Option.map_some]
          congr 2
          simp [Addr.add_none]
      · cases hr
    · rename_i p0
      split at hr
      · rename_i o1 l vs1 hb1
        split at hr
        · rename_i o2 u hb2
          cases hr
          obtain ⟨b, cc, hb', hx'⟩ := dsl_den hx
          rcases hx' with ⟨hz, h0, hpx⟩ | ⟨hz, hle, hpx⟩
          · subst h0
            refine good_fin (x := .slice cc.a 0 0) (by rw [← hf]; rfl) (by rw [← hf]; rfl) kk fun hob => ?_
            obtain ⟨k1, k2⟩ := qzu.1 hob
            obtain ⟨k5, k3, k4, _⟩ := qzu.1 k2
            have k3 : l ≤ u := k3
            have k4 : u ≤ 0 := k4
            obtain rfl : u = 0 := by omega
            obtain rfl : l = 0 := by omega
            refine ⟨?_, by simp [den, hb', hz]⟩
            have hbb : boundsA 0 0 (some p0) hi none vs = some (o1 ++ o2 ++ [] ++ [0 ≤ 0, 0 ≤ 0, 0 ≤ 0], 0, 0, 0) := by
              unfold boundsA
              simp only [hb1, hb2, show ∀ d v, boundA d none v = some ([], d, v) from fun _ _ => rfl]
            obtain ⟨hs, _⟩ := boundsA_run (P := P) (w := w) (isSlice := true) (ρ := ρ) hbb (by simpa using hv) (qzu.2 ⟨qzu.2 ⟨qzu.2 ⟨k1, k5⟩, trivial⟩, Nat.le_refl _, Nat.le_refl _, Nat.le_refl _, trivial⟩) (by simp)
            simp only [Option.map_none, Option.map_some] at hs
            simp only [Instr.sliceAt, Instr.slice, Sem.run_bind, run_underlying' hu, Result.andThen_ok, hpx, Sem.run_pure, Option.map_none, Option.map_some, hs, run_sizeOf' hi']
            simp
          · refine good_fin (x := .slice (some ⟨b, cc.o + (if l = cc.n then 0 else l * P.cellsOf e), none⟩) (u - l) (cc.n - l)) (by rw [← hf]; rfl) (by rw [← hf]; rfl) kk fun hob => ?_
            obtain ⟨k1, k2⟩ := qzu.1 hob
            obtain ⟨k5, k3, k4, _⟩ := qzu.1 k2
            have k3 : l ≤ u := k3
            have k4 : u ≤ len := k4
            refine ⟨?_, ?_⟩
            · have hbb : boundsA len cc.n (some p0) hi none vs = some (o1 ++ o2 ++ [] ++ [l ≤ u, u ≤ cc.n, cc.n ≤ cc.n], l, u, cc.n) := by
                unfold boundsA
                simp only [hb1, hb2, show ∀ d v, boundA d none v = some ([], d, v) from fun _ _ => rfl]
              obtain ⟨hs, _⟩ := boundsA_run (P := P) (w := w) (isSlice := true) (ρ := ρ) hbb (by simpa using hv) (qzu.2 ⟨qzu.2 ⟨qzu.2 ⟨k1, k5⟩, trivial⟩, by omega, by omega, Nat.le_refl _, trivial⟩) (by simp)
              simp only [Option.map_none, Option.map_some] at hs
              simp only [Instr.sliceAt, Instr.slice, Sem.run_bind, run_underlying' hu, Result.andThen_ok, hpx, Sem.run_pure, Option.map_none, hs, run_sizeOf' hi', Option.map_some]
              by_cases hne : l = cc.n
              · subst hne; simp [Addr.add_none]
              · rw [if_neg hne, if_neg (by omega)]
                simp [Addr.add_none]
            · by_cases h0 : l = 0
              · subst h0
                rw [if_pos rfl]
                simp [den, hb', hz, show u ≤ cc.n by omega]
              · rw [if_neg h0]
                simp only [den, hb', Option.bind_some]
                rw [if_pos ⟨hz, by omega⟩]
        · cases hr
      · cases hr
    · cases hr
  · rename_i e hu
    simp only [foot, Option.some.injEq] at hf
    split at hr
    · cases hr
    rename_i hi'
    obtain ⟨ie, hi'⟩ := Option.ne_none_iff_exists'.1 (by simpa using hi')
    split at hr
    · rename_i ob l u m hb
      cases hr
      have hpx : ρ p = .slice none 0 0 := by simpa [den] using hx.symm
      refine good_fin (x := .slice none 0 0) (by rw [← hf]; rfl) (by rw [← hf]; rfl) kk fun hob => ⟨?_, rfl⟩
      obtain ⟨hs, h1, h2, h3⟩ := boundsA_run (P := P) (w := w) (isSlice := true) hb hv hob hm
      simp only [Instr.sliceAt, Instr.slice, Sem.run_bind, run_underlying' hu, Result.andThen_ok, hpx, Sem.run_pure, hs, run_sizeOf' hi', Option.map_none]
      congr 3
      · split <;> rfl
      · omega
      · omega
    · cases hr
  · cases hr
end Go.Proofs.YtphhepnldndbhaaGreatDoor.Sx
namespace Go.Proofs.YtphhepnldndbhaaGreatDoor.Sx
open Go
variable {P : Program} {E : Env} {w : World}
theorem keyFs_one {i : Nat} {f : Field} {fs : List Field} (h : keyFs P i (f :: fs) = true) : f.name ≠ "_" ∧ f.offset = i ∧ P.underlying f.type = some (.int .i64) ∧ keyFs P (i + 1) fs = true := by
  simp only [keyFs, Bool.and_eq_true, bne_iff_ne, ne_eq] at h
  obtain ⟨⟨⟨h1, h2⟩, h3⟩, h4⟩ := h
  refine ⟨h1, Nat.eq_of_beq_eq_true h2, ?_, h4⟩
  split at h3
  · assumption
  · cases h3
theorem keyN_spec {t : TypeId} {n : Nat} (h : keyN P t = some n) : ∃ fs, P.underlying t = some (.struct fs) ∧ P.stoodInHeld t = false ∧ keyFs P 0 fs.toList = true ∧ fs.toList.length = n := by
  unfold keyN at h
  split at h
  · rename_i fs hu
    split at h
    · rename_i hc
      simp only [Bool.and_eq_true, Bool.not_eq_true'] at hc
      cases h
      exact ⟨fs, hu, hc.1, hc.2, rfl⟩
    · cases h
  · cases h
theorem drop_eqB {xs ys : List Int} {i : Nat} (hx : i < xs.length) (hy : i < ys.length) : (xs.drop i == ys.drop i) = (xs.getD i 0 == ys.getD i 0 && xs.drop (i + 1) == ys.drop (i + 1)) := by
  rw [List.drop_eq_getElem_cons hx, List.drop_eq_getElem_cons hy]
  have ex : xs.getD i 0 = xs[i] := by simp [List.getD, hx]
  have ey : ys.getD i 0 = ys[i] := by simp [List.getD, hy]
  rw [ex, ey]; rfl
theorem eqFields_ints {D : Nat} (xs ys : List Int) : ∀ (fs : List Field) (i : Nat), keyFs P i fs = true → i + fs.length = xs.length → i + fs.length = ys.length →
    (Op.eqFields (D + 1) (xs.map (Value.int .i64)).toArray (ys.map (Value.int .i64)).toArray fs).run P w = .ok (xs.drop i == ys.drop i) w
  | [], i, _, h1, h2 => by
    rw [List.drop_eq_nil_of_le (by simp at h1; omega), List.drop_eq_nil_of_le (by simp at h2; omega)]
    simp [Op.eqFields]
  | f :: fs, i, hk, h1, h2 => by
    obtain ⟨k1, k2, k3, k4⟩ := keyFs_one hk
    simp only [List.length_cons] at h1 h2
    have ih := eqFields_ints (D := D) xs ys fs (i + 1) k4 (by omega) (by omega)
    subst k2
    rw [drop_eqB (by omega) (by omega)]
    simp only [Op.eqFields, ne_eq, k1, not_false_eq_true, if_true, Sem.run_bind, part_int k3 xs (show f.offset < xs.length by omega), part_int k3 ys (show f.offset < ys.length by omega), Result.andThen_ok, run_equalIn_int w D f.type _ _ _ _ k3]
    cases hc : xs.getD f.offset 0 == ys.getD f.offset 0 with
    | true => simp only [Bool.not_true, Bool.false_eq_true, if_false, Bool.true_and]; exact ih
    | false => simp only [Bool.not_false, if_true, Sem.run_pure, Bool.false_and]
theorem key_equal {t : TypeId} {n : Nat} (h : keyN P t = some n) {a b : List Int} (ha : a.length = n) (hb : b.length = n) : (Op.equal t (keyV a) (keyV b)).run P w = .ok (a == b) w := by
  obtain ⟨fs, hu, hs, hk, hl⟩ := keyN_spec h
  unfold Op.equal keyV
  rw [show Op.maxDepth = 9999 + 1 from rfl, run_equalIn_struct w 9999 t _ _ (by rw [fieldsOf_eq hu]; exact hu) hs, fieldsOf_eq hu]
  have := eqFields_ints (P := P) (w := w) (D := 9998) a b fs.toList 0 hk (by omega) (by omega)
  simpa using this
theorem key_check {t : TypeId} {n : Nat} (h : keyN P t = some n) {a : List Int} (ha : a.length = n) (em : Bool) : (Instr.checkKey em 10000 t (keyV a)).run P w = .ok () w := by
  obtain ⟨fs, hu, hs, hk, hl⟩ := keyN_spec h
  unfold keyV
  rw [show (10000 : Nat) = 9999 + 1 from rfl, Instr.checkKey]
  simp only [Sem.run_bind, run_underlying' hu, Result.andThen_ok]
  rw [← Array.forIn_toList]
  have key : ∀ (L : List Field) (i : Nat), keyFs P i L = true → i + L.length = a.length → ∀ u : PUnit, (forIn L u fun f _ => (do
      if f.name ≠ "_" then Instr.checkKey em 9999 f.type (← part f.type (a.map (Value.int .i64)).toArray f.offset)
      pure (ForInStep.yield PUnit.unit) : Sem (ForInStep PUnit))).run P w = .ok PUnit.unit w := by
    intro L
    induction L with
    | nil => intro i _ _ u; simp
    | cons f L ih =>
      intro i hk hl u
      obtain ⟨k1, k2, k3, k4⟩ := keyFs_one hk
      simp only [List.length_cons] at hl
      have c : (Instr.checkKey em 9999 f.type (.int .i64 (a.getD f.offset 0))).run P w = .ok () w := by
        rw [show (9999 : Nat) = 9998 + 1 from rfl, Instr.checkKey]
        simp [Sem.run_bind, run_underlying' k3]
      simp only [List.forIn_cons, Sem.run_bind, k1, ne_eq, not_false_eq_true, if_true, part_int k3 a (show f.offset < a.length by omega), Result.andThen_ok, c, Sem.run_pure]
      exact ih (i + 1) k4 (by omega) _
  have := key fs.toList 0 hk (by omega) PUnit.unit
  simp at this ⊢
  rw [this]; rfl
theorem key_find {t : TypeId} {n : Nat} (h : keyN P t = some n) {a : List Int} (ha : a.length = n) : ∀ (es : List MapEntry) (ks : List (List Int)) (i : Nat), (∀ k ∈ ks, k.length = n) → es.map (fun e => (e.key, e.val)) = ks.map (fun k => (keyV k, Value.bool true)) →
    (memK ks a = false ∧ (Instr.findAsking t (keyV a) es i).run P w = .ok none w) ∨ (memK ks a = true ∧ ∃ j e, es[j]? = some e ∧ e.key = keyV a ∧ (Instr.findAsking t (keyV a) es i).run P w = .ok (some (i + j, .bool true)) w)
  | [], [], i, _, _ => .inl ⟨rfl, by simp [Instr.findAsking]⟩
  | [], _ :: _, i, _, he => by simp at he
  | _ :: _, [], i, _, he => by simp at he
  | e :: es, k :: ks, i, hl, he => by
    simp only [List.map_cons, List.cons.injEq, Prod.mk.injEq] at he
    obtain ⟨⟨e1, e2⟩, he⟩ := he
    have hq := key_equal (w := w) h ha (hl k (by simp))
    have hm : memK (k :: ks) a = (a == k || memK ks a) := rfl
    cases hc : a == k with
    | true =>
      have : a = k := beq_iff_eq.1 hc
      subst this
      refine .inr ⟨by rw [hm, hc]; rfl, 0, e, rfl, e1, ?_⟩
      simp only [Instr.findAsking, Sem.run_bind, e1, hq, hc, Result.andThen_ok, if_true, Sem.run_pure, e2, Nat.add_zero]
    | false =>
      rcases key_find h ha es ks (i + 1) (fun x hx => hl x (by simp [hx])) he with ⟨g1, g2⟩ | ⟨g1, j, e', g2, g3, g4⟩
      · refine .inl ⟨by rw [hm, hc, g1]; rfl, ?_⟩
        simp only [Instr.findAsking, Sem.run_bind, e1, hq, hc, Result.andThen_ok, Bool.false_eq_true, if_false, g2]
      · refine .inr ⟨by rw [hm, hc, g1]; rfl, j + 1, e', by simpa using g2, g3, ?_⟩
        simp only [Instr.findAsking, Sem.run_bind, e1, hq, hc, Result.andThen_ok, Bool.false_eq_true, if_false, g4]
        rw [show i + 1 + j = i + (j + 1) by omega]
theorem key_findKey {t : TypeId} {n : Nat} (h : keyN P t = some n) (x : Value) (es : List MapEntry) : (Instr.findKey t x es).run P w = (Instr.findAsking t x es).run P w := by
  obtain ⟨fs, hu, _⟩ := keyN_spec h
  cases es with
  | nil => simp [Instr.findKey, run_underlying' hu, Instr.findNow, Instr.findAsking]
  | cons e es => simp [Instr.findKey, run_underlying' hu, Instr.findNow, Instr.sameNow]
theorem setN_spec {t : TypeId} {n : Nat} (h : setN P t = some n) : ∃ k e, P.underlying t = some (.map k e) ∧ zeroA P e = some (.bool false) ∧ keyN P k = some n := by
  unfold setN at h
  split at h
  · rename_i k e hu
    split at h
    · rename_i hz; exact ⟨k, e, hu, hz, h⟩
    · cases h
  · cases h
theorem set_lookup {t b : Nat} {n : Nat} (h : setN P t = some n) {ks : List (List Int)} (hk : ∀ k ∈ ks, k.length = n) {es : Array MapEntry} {cl : Nat} (hb : w.heap[b]? = some (.map es cl)) (he : es.toList.map (fun e => (e.key, e.val)) = ks.map fun k => (keyV k, .bool true)) {a : List Int} (ha : a.length = n) :
    (Instr.lookup t (.map (some b)) (keyV a) false).run P w = .ok (.bool (memK ks a)) w := by
  obtain ⟨k, e, hu, hz, hn⟩ := setN_spec h
  have hget : (getObj b).run P w = .ok (.map es cl) w := by simp only [getObj, Sem.run, hb]
  obtain ⟨z, hz1, hz2⟩ := run_zeroValue (P := P) (w := w) (E := fun _ => none) hz
  have hz2 : z = .bool false := by simpa [den] using hz2.symm
  subst hz2
  have hf := key_find (w := w) hn ha es.toList ks 0 hk he
  rw [← key_findKey hn] at hf
  simp only [Instr.lookup, Sem.run_bind, run_underlying' hu, Result.andThen_ok, hget, Sem.run_pure, key_check hn ha]
  rcases hf with ⟨g1, g2⟩ | ⟨g1, j, e', g2, g3, g4⟩
  · simp [g2, hz1, g1]
  · simp [g4, g1]
theorem key_stays {a : List Int} : (Instr.keyThatStays (keyV a) (keyV a)).run P w = .ok (keyV a) w := by
  have h1 : ∀ (l : List Int), ((l.map (Value.int .i64)).zip (l.map (Value.int .i64))).all (fun x => Instr.sameBits 9999 x.1 x.2) = true := by
    intro l
    induction l with
    | nil => rfl
    | cons x l ih =>
      simp only [List.map_cons, List.zip_cons_cons, List.all_cons, ih, Bool.and_true]
      simp [Instr.sameBits]
  have h : Instr.sameBits 10000 (keyV a) (keyV a) = true := by
    unfold keyV
    rw [show (10000 : Nat) = 9999 + 1 from rfl, Instr.sameBits]
    have := h1 a
    simp at this ⊢
    exact this
  simp [Instr.keyThatStays, h]
theorem set_update {t b : Nat} {n : Nat} (h : setN P t = some n) {ks : List (List Int)} (hk : ∀ k ∈ ks, k.length = n) {es : Array MapEntry} {cl : Nat} (hb : w.heap[b]? = some (.map es cl)) (he : es.toList.map (fun e => (e.key, e.val)) = ks.map fun k => (keyV k, .bool true)) {a : List Int} (ha : a.length = n) :
    ∃ (es' : Array MapEntry) (cl' : Nat), (Instr.mapUpdate t (.map (some b)) (keyV a) (.bool true)).run P w = .ok () { w with heap := w.heap.setIfInBounds b (.map es' cl') } ∧ es'.toList.map (fun e => (e.key, e.val)) = (addK ks a).map fun k => (keyV k, .bool true) := by
  obtain ⟨k, e, hu, hz, hn⟩ := setN_spec h
  have hget : (getObj b).run P w = .ok (.map es cl) w := by simp only [getObj, Sem.run, hb]
  have hset : ∀ o, (setObj b o).run P w = .ok () { w with heap := w.heap.setIfInBounds b o } := fun o => by simp only [setObj, Sem.run, hb]
  have hf := key_find (w := w) hn ha es.toList ks 0 hk he
  rw [← key_findKey hn] at hf
  rcases hf with ⟨g1, g2⟩ | ⟨g1, j, e', g2, g3, g4⟩
  · refine ⟨es.push { key := keyV a, val := .bool true, born := cl }, cl + 1, ?_, ?_⟩
    · simp only [Instr.mapUpdate, Sem.run_bind, run_underlying' hu, Result.andThen_ok, hget, key_check hn ha, g2, hset]
    · unfold addK; rw [g1]
      simp [he]
  · rw [Nat.zero_add] at g4
    have gj : es[j]? = some e' := by simpa using g2
    have hs : (Instr.keyThatStays (((es[j]?).map (·.key)).getD (keyV a)) (keyV a)).run P w = .ok (keyV a) w := by rw [gj]; simp only [Option.map_some, Option.getD_some, g3]; exact key_stays
    refine ⟨es.modify j fun e => { e with key := keyV a, val := .bool true }, cl, ?_, ?_⟩
    · simp only [Instr.mapUpdate, Sem.run_bind, run_underlying' hu, Result.andThen_ok, hget, key_check hn ha, g4, hs, hset]
    · unfold addK; rw [g1]
      show _ = ks.map _
      rw [← he]
      have hv : e'.val = .bool true := by
        have : (es.toList.map (fun e => (e.key, e.val)))[j]? = some (e'.key, e'.val) := by rw [List.getElem?_map, g2]; rfl
        rw [he, List.getElem?_map] at this
        simp only [Option.map_eq_some_iff, Prod.mk.injEq] at this
        obtain ⟨_, _, _, hv⟩ := this
        exact hv.symm
      apply List.ext_getElem?
      intro i
      rw [List.getElem?_map, List.getElem?_map, Array.toList_modify, List.getElem?_modify]
      by_cases hi : j = i
      · subst hi; rw [g2]; simp [g3, hv]
      · simp [hi]
theorem putUpd {b : Nat} {o : Obj} (hb : b < w.heap.size) : Upd b w { w with heap := w.heap.setIfInBounds b o } ∧ ({ w with heap := w.heap.setIfInBounds b o } : World).heap[b]? = some o :=
  ⟨⟨fun k hk => by simp only [Array.getElem?_setIfInBounds]; rw [if_neg (by omega)], by simp, rfl, rfl, rfl⟩, by simp [hb]⟩
theorem keyV_den {cs : List AV} {k : List Int} {x : Value} (hk : unInts .i64 cs = some k) (hx : den E (.agg cs) = some x) : x = keyV k := by
  obtain ⟨xs, hxs, rfl⟩ := denC_agg.1 hx
  rw [unInts_eq _ _ hk] at hxs
  have := hxs.1
  rw [denL_imap] at this
  cases this; rfl
theorem good_makeMap {o : Oper} {ρ : Operand → Value} {t : TypeId} {h : Hint} {r : Res} {F : Foot} (ho : o.op = .makeMap t none) (hf : F = ⟨[], [], h.nm⟩) (hp : Pre E w F [])
    (hr : (match setN P t, h.nm with | some n, [k] => some (newA h [] (.mapp k) (.mapS n [])) | _, _ => none) = some r) (kk : AllP r.obl) : Good E w F r.upd r.new r.val ((execOp ρ o).run P w) := by
  split at hr
  · rename_i n k hs hnm
    cases hr
    rw [hnm] at hf; subst hf
    refine good_new kk fun _ => ⟨.map (some w.heap.size), { w with heap := w.heap.push (.map #[] 0) }, E.set k (w.heap.size, 0), .inl ?_, by simp [den, Env.set_same], .push rfl rfl rfl rfl (hp.fresh k (by simp)) ⟨by simp, #[], 0, by simp, rfl⟩ (fun e => absurd rfl e) (Cap.bare_of fun _ _ => rfl)⟩
    simp only [execOp, ho, Instr.makeMap, Sem.run_bind, run_newObj, Result.andThen_ok, Sem.run_pure, Option.map_none]
  · cases hr
theorem good_lookupS {o : Oper} {ρ : Operand → Value} {t : TypeId} {m k : Operand} {nm : Nat} {cs' : List AV} {h : Hint} {cs : List AObj} {r : Res} {F : Foot} (ho : o.op = .lookup t m k false) (h1 : den E (.mapp nm) = some (ρ m)) (h2 : den E (.agg cs') = some (ρ k)) (hf : F = ⟨[nm], [], []⟩) (hp : Pre E w F cs)
    (hr : lookS P t cs' cs = some r) (kk : AllP r.obl) : Good E w F r.upd r.new r.val ((execOp ρ o).run P w) := by
  unfold lookS at hr
  split at hr
  · rename_i n k' m' ks hs hk
    split at hr
    · rename_i hc
      cases hr
      simp only [Bool.and_eq_true] at hc
      obtain rfl := Nat.eq_of_beq_eq_true hc.1
      have hl := Nat.eq_of_beq_eq_true hc.2
      obtain ⟨b, c, hb, hm⟩ := mapp_den h1
      subst hf
      obtain ⟨b', c', hb', hob⟩ := hp.objs 0 nm _ rfl rfl
      rw [hb] at hb'; cases hb'
      obtain ⟨q1, es, cl, q2, q3⟩ := hob
      refine Good.pure rfl rfl (x := .bool (memK ks k')) ?_ rfl
      simp only [execOp, ho, hm, keyV_den hk h2, Sem.run_bind, set_lookup hs q1 q2 q3 hl, Result.andThen_ok, Sem.run_pure]
    · cases hr
  · cases hr
theorem good_updateS {o : Oper} {ρ : Operand → Value} {t : TypeId} {m k v : Operand} {nm : Nat} {cs' : List AV} {h : Hint} {cs : List AObj} {r : Res} {F : Foot} (ho : o.op = .mapUpdate t m k v) (h1 : den E (.mapp nm) = some (ρ m)) (h2 : den E (.agg cs') = some (ρ k)) (h3 : ρ v = .bool true) (hf : F = ⟨[nm], [nm], []⟩) (hp : Pre E w F cs)
    (hr : updS P t cs' cs = some r) (kk : AllP r.obl) : Good E w F r.upd r.new r.val ((execOp ρ o).run P w) := by
  unfold updS at hr
  split at hr
  · rename_i n k' m' ks hs hk
    split at hr
    · rename_i hc
      cases hr
      simp only [Bool.and_eq_true] at hc
      obtain rfl := Nat.eq_of_beq_eq_true hc.1
      have hl := Nat.eq_of_beq_eq_true hc.2
      obtain ⟨b, c, hb, hm⟩ := mapp_den h1
      subst hf
      obtain ⟨b', c', hb', hob⟩ := hp.objs 0 nm _ rfl rfl
      rw [hb] at hb'; cases hb'
      obtain ⟨q1, es, cl, q2, q3⟩ := hob
      obtain ⟨es', cl', g1, g2⟩ := set_update hs q1 q2 q3 hl
      obtain ⟨u1, u2⟩ := putUpd (o := .map es' cl') (Array.getElem?_eq_some_iff.1 q2).1
      refine ⟨undef, _, E, .inr ⟨?_, rfl⟩, rfl, .write hb ⟨?_, es', cl', u2, g2⟩ u1⟩
      · simp only [execOp, ho, hm, keyV_den hk h2, h3, Sem.run_bind, g1, Result.andThen_ok, Sem.run_pure]
      · intro x hx
        unfold addK at hx
        cases hq : memK ks k' with
        | true => rw [hq] at hx; exact q1 x hx
        | false =>
          rw [hq] at hx
          rcases List.mem_append.1 hx with hx | hx
          · exact q1 x hx
          · rw [List.mem_singleton.1 hx]; exact hl
    · cases hr
  · cases hr
end Go.Proofs.YtphhepnldndbhaaGreatDoor.Sx
