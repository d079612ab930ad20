/- The symbolic executor, part L: 'act' is sound. -/
import Derived.Test.YtanhlbdcjonaoaaDoorSx1
import Derived.Lib.UnsafeStr
import Derived.LoopN
import Derived.Laws.Externs
import Derived.Lib.Bytealg
import Derived.ChangeKeysEq
set_option linter.unusedSimpArgs false
set_option linter.unusedVariables false
namespace Go.Proofs.YtanhlbdcjonaoaaDoor.Sx
open Go

variable {P : Program} {E : Env} {w : World}

theorem ok1_some {h : Hint} {q : Option (List Prop × AV)} {r : Res} (e : ok1 h q = some r) : ∃ ob v, q = some (ob, v) ∧ r = fin h ob v := by
  unfold ok1 at e
  simp only [Option.map_eq_some_iff] at e
  obtain ⟨⟨ob, v⟩, hq, rfl⟩ := e
  exact ⟨ob, v, hq, rfl⟩

/-- A value moved, as it is or told otherwise. -/
theorem good_moveA {x : Operand} {ρ : Operand → Value} {o : Oper} (ho : o.op = .move x ∨ o.op = .assign x) {v : AV} {h : Hint} {F : Foot} {cs : List AObj} {r : Res} (hF : footV h v = F) (hp : Pre E w F cs) (hv : den E v = some (ρ x)) (hr : moveA h v cs = some r) (k : AllP r.obl) :
    Good E w F r.upd r.new r.val ((execOp ρ o).run P w) := by
  have hrun : (execOp ρ o).run P w = .ok (.value (ρ x)) w := by rcases ho with ho | ho <;> simp [execOp, ho]
  unfold moveA at hr
  split at hr
  · rename_i h0
    cases hr
    exact good_move ho (by rw [← hF]; simp only [footV, h0]) hv k
  · rename_i h1
    split at hr
    · rename_i kk hnm
      cases hr
      have hF' : F = ⟨[], [], [kk]⟩ := by rw [← hF]; simp only [footV, h1, hnm]
      subst hF'
      have hk : E kk = none := hp.fresh kk (by simp)
      have hx : ρ x = .slice none 0 0 := by simpa [den] using hv.symm
      refine ⟨_, w, E.set kk (0, { n := 0, z := true }), .inl hrun, by rw [hx]; simp [den, Env.set_same], ?_⟩
      exact {
        le := .set hk
        only := fun n hn => Env.set_other E _ (by simpa using hn)
        wrote := fun e => by cases e
        made := fun i n o' h1 h2 => by
          cases i with
          | zero => simp at h1 h2; subst h1; subst h2; exact ⟨_, _, Env.set_same E _ _, ⟨[], ⟨rfl, rfl⟩, fun _ => rfl, fun e => by cases e⟩, fun ht => by cases ht.1⟩
          | succ i => simp at h1
        keep := fun _ _ _ => rfl
        newApart := fun i j n m o1 o2 b c b' c' h1 h2 _ _ _ _ _ _ hne => by
          cases i with
          | zero => cases j with
            | zero => exact absurd rfl hne
            | succ j => simp at h2
          | succ i => simp at h1
        grow := Nat.le_refl _, os := rfl, tape := rfl, output := rfl }
    · cases hr
  · rename_i h2
    split at hr
    · rename_i nm len c t sz
      cases hr
      have hF' : F = ⟨[nm], [nm], []⟩ := by rw [← hF]; simp only [footV, h2]
      subst hF'
      obtain ⟨b, cp, hb, hob⟩ := hp.objs 0 nm _ rfl rfl
      obtain ⟨b', c', hb', hx⟩ := vec_den hv
      rw [hb] at hb'; cases hb'
      obtain ⟨c1, c2, c3⟩ := vec_cap hv hb
      refine ⟨_, w, E, .inl hrun, ?_, ?_⟩
      · rw [hx]; simp only [den, hb, Option.bind_some, c1, c2, Bool.false_eq_true, if_false]; rw [if_pos c3]
      · have hobj : ObjR E w b cp (.flat true c) := by
          obtain ⟨xs, hxs, hw⟩ := hob.window rfl
          refine ⟨xs, hxs, fun e => ?_, fun _ => ?_⟩
          · rw [c1] at e; cases e
          exact ⟨hob.lt rfl rfl, fun i x hi => by rw [c2]; exact hw i x hi⟩
        exact {
          le := .refl _, only := fun _ _ => rfl
          wrote := fun _ i n o' h1 h2 => by
            cases i with
            | zero => simp at h1 h2; subst h1; subst h2; exact ⟨b, cp, hb, hobj⟩
            | succ i => simp at h1
          made := fun i n o' h1 h2 => by simp at h1
          keep := fun _ _ _ => rfl
          newApart := fun i j n m o1 o2 b c b' c' h1 => by simp at h1
          grow := Nat.le_refl _, os := rfl, tape := rfl, output := rfl }
    · cases hr
  · cases hr

theorem sealR_obl {h : Hint} {r : Res} : (sealR h r).obl = r.obl := by
  unfold sealR
  split
  · split <;> rfl
  · rfl
theorem good_seal {F : Foot} {h : Hint} {r : Res} {q : Result Next} (hg : Good E w F r.upd r.new r.val q) : Good E w F (sealR h r).upd (sealR h r).new (sealR h r).val q := by
  unfold sealR
  split
  · split
    · rename_i k n c t sz hv hn
      obtain ⟨x, w', E', hrun, hd, he⟩ := hg
      rw [hn] at he
      rw [hv] at hd
      refine ⟨x, w', E', hrun, ?_, ?_⟩
      · obtain ⟨b, c', hb, hx⟩ := vec_den hd
        obtain ⟨c1, c2, c3⟩ := vec_cap hd hb
        rw [hx]; simp only [den, hb, Option.bind_some, c1, c2, Bool.false_eq_true, if_false]; rw [if_pos c3]
      · exact { he with
          made := fun i n' o h1 h2 => by
            cases i with
            | zero =>
              simp at h2; subst h2
              obtain ⟨b, cp, hb, ho, hor⟩ := he.made 0 n' _ h1 rfl
              refine ⟨b, cp, hb, ?_, fun _ => hor rfl⟩
              have hlt := ho.lt rfl rfl
              obtain ⟨xs, hxs, hw⟩ := ho.window rfl
              obtain ⟨_, _, _, _, _, c2, c1⟩ := ho
              refine ⟨xs, hxs, fun e => ?_, fun _ => ⟨hlt, fun i x hi => ?_⟩⟩
              · rw [c1] at e; cases e
              · rw [c2]; exact hw i x hi
            | succ i => simp at h2
          newApart := fun i j n' m o o' b cc b' c' h1 h2 g1 g2 w1 => by
            cases i with
            | zero => simp at g1; subst g1; cases w1
            | succ i => simp at g1 }
    · exact hg
  · exact hg

theorem denL_len2 {vs : List AV} {xs : List Value} (h : denL E vs = some xs) : vs.length = xs.length := (denL_length h).symm

theorem lenA_run {t : TypeId} {x v : AV} {X : Value} (h : lenA P t x = some v) (hx : den E x = some X) (at_ : Array TypeId) (ht : at_[0]? = some t) (ty : TypeId) : ∃ z, (Builtin.len_ at_ ty #[X]).run P w = .ok z w ∧ den E v = some z := by
  unfold lenA at h
  split at h
  · rename_i s hu; cases h
    have hX : X = .string ⟨s.toArray⟩ := by simpa [den] using hx.symm
    subst hX
    refine ⟨.int .i64 s.length, ?_, rfl⟩
    have hsz : (ByteArray.mk s.toArray).size = s.length := rfl
    simp only [Builtin.len_, ht, List.getElem?_toArray, List.getElem?_cons_zero, Sem.run_bind, run_underlying' hu, Result.andThen_ok, hsz, Sem.run_pure, goInt]
  · rename_i n e hu; cases h
    exact ⟨_, by simp [Builtin.len_, ht, run_underlying' hu, goInt], rfl⟩
  · rename_i e nm off n c hu; cases h
    obtain ⟨b, c', _, rfl⟩ := slice_den hx
    exact ⟨_, by simp [Builtin.len_, ht, run_underlying' hu, goInt], rfl⟩
  · rename_i e nm n hu; cases h
    obtain ⟨b, c', _, rfl⟩ := vec_den hx
    exact ⟨_, by simp [Builtin.len_, ht, run_underlying' hu, goInt], rfl⟩
  · rename_i e hu; cases h
    have hX : X = .slice none 0 0 := by simpa [den] using hx.symm
    subst hX
    exact ⟨_, by simp [Builtin.len_, ht, run_underlying' hu, goInt], rfl⟩
  · rename_i e nm n hu; cases h
    obtain ⟨b, c', _, ⟨_, rfl, rfl⟩ | ⟨_, _, rfl⟩⟩ := dsl_den hx
    · exact ⟨_, by simp [Builtin.len_, ht, run_underlying' hu, goInt], rfl⟩
    · exact ⟨_, by simp [Builtin.len_, ht, run_underlying' hu, goInt], rfl⟩
  · cases h

theorem capA_run {t : TypeId} {x v : AV} {X : Value} (h : capA P t x = some v) (hx : den E x = some X) (at_ : Array TypeId) (ht : at_[0]? = some t) (ty : TypeId) : ∃ z, (Builtin.cap_ at_ ty #[X]).run P w = .ok z w ∧ den E v = some z := by
  unfold capA at h
  split at h
  · rename_i e nm off n c hu; cases h
    obtain ⟨b, c', _, rfl⟩ := slice_den hx
    exact ⟨_, by simp [Builtin.cap_, ht, run_underlying' hu, goInt], rfl⟩
  · rename_i e hu; cases h
    have hX : X = .slice none 0 0 := by simpa [den] using hx.symm
    subst hX
    exact ⟨_, by simp [Builtin.cap_, ht, run_underlying' hu, goInt], rfl⟩
  · cases h

theorem execOp_builtin1 {o : Oper} {ρ : Operand → Value} {c : Call} {b : Builtin} {v : Value} (ho : o.op = .call c) (hc : c.callee = .builtin b)
    (h : ∀ cb, (builtin b c.argTypes o.type cb (c.args.map ρ)).run P w = .ok (.value v) w) : (execOp ρ o).run P w = .ok (.value v) w := by
  simp only [execOp, ho, resolve, hc, Sem.run_bind, Sem.run_pure, Result.andThen_ok, invoke, h]

theorem args1 {c : Call} {ρ : Operand → Value} {b : Builtin} (hc : c.callee = .builtin b) {vs : List AV} (h : denL E vs = some ((Op.call c).operands.toList.map ρ)) : denL E vs = some (c.args.map ρ).toList := by
  simpa [Op.operands, Call.operands, hc] using h

theorem good_next {o : Oper} {ρ : Operand → Value} {p : Operand} {nm : Nat} {h : Hint} {cs : List AObj} {r : Res} {F : Foot} (ho : o.op = .next p true) (hx : den E (.ptr nm 0) = some (ρ p)) (hf : F = ⟨[nm], [nm], []⟩) (hp : Pre E w F cs)
    (hr : act P h (.next p true) [.ptr nm 0] cs = some r) (kk : AllP r.obl) : Good E w F r.upd r.new r.val ((execOp ρ o).run P w) := by
  obtain ⟨b, c, hb, hpx⟩ := ptr_den hx
  subst hf
  simp only [act] at hr
  split at hr
  · rename_i s pos pp cc hv
    split at hr
    · rename_i s' pos' hobj
      cases hr
      obtain ⟨h1, h2, h3, h4, h5, _⟩ := kk
      have h1 : s = s' := h1
      subst h1
      obtain ⟨b', c', hb', hob⟩ := hp.objs 0 nm _ rfl rfl
      rw [hb] at hb'; cases hb'
      have hob : w.heap[b]? = some (.stringIter ⟨s.toArray⟩ pos) := hob
      have hsz : (ByteArray.mk s.toArray).size = s.length := rfl
      have hlt : b < w.heap.size := (Array.getElem?_eq_some_iff.1 hob).1
      let w' : World := { w with heap := w.heap.setIfInBounds b (.stringIter ⟨s.toArray⟩ pos') }
      have hu : Upd b w w' := ⟨fun k hk => by simp only [w', Array.getElem?_setIfInBounds]; rw [if_neg (by omega)], by simp [w'], rfl, rfl, rfl⟩
      have hnew : w'.heap[b]? = some (.stringIter ⟨s.toArray⟩ pos') := by simp [w', hlt]
      refine ⟨.tuple #[.bool true, .int .i64 pp, .int .i32 cc], w', E, .inl ?_, by simp [den, denL], .write hb hnew hu⟩
      have hget : (getObj b).run P w = .ok (.stringIter ⟨s.toArray⟩ pos) w := by
        simp only [getObj, Sem.run, hob]
      have hset : (setObj b (.stringIter ⟨s.toArray⟩ (pos + (Utf8.decode ⟨s.toArray⟩ pos).2))).run P w = .ok () w' := by
        simp only [setObj, Sem.run, hob, h5]; rfl
      simp only [execOp, ho, Instr.next, hpx, Sem.run_bind, hget, Result.andThen_ok, hsz]
      rw [if_pos h2]
      generalize hdec : Utf8.decode ⟨s.toArray⟩ pos = d at *
      obtain ⟨dc, dw⟩ := d
      simp only [Sem.run_bind, hset, Result.andThen_ok, Sem.run_pure, goInt, h3, ← h4]
    · cases hr
  · rename_i s pos hv
    cases hr
    obtain ⟨h1, _⟩ := kk
    obtain ⟨b', c', hb', hob⟩ := hp.objs 0 nm _ rfl rfl
    rw [hb] at hb'; cases hb'
    have hob : w.heap[b]? = some (.stringIter ⟨s.toArray⟩ pos) := hob
    have hsz : (ByteArray.mk s.toArray).size = s.length := rfl
    refine ⟨.tuple #[.bool false], w, E, .inl ?_, by simp [den, denL], .write hb hob (.refl _ _)⟩
    have hget : (getObj b).run P w = .ok (.stringIter ⟨s.toArray⟩ pos) w := by
      simp only [getObj, Sem.run, hob]
    simp only [execOp, ho, Instr.next, hpx, Sem.run_bind, hget, Result.andThen_ok, hsz]
    rw [if_neg (by omega)]
    rfl
  · cases hr

/-- Cells written into a block: the same block, with other cells. -/
theorem run_storeCells_obj {b off : Nat} {c : Cap} {vc : List AV} {vs : List Value} {o o1 : AObj} {off' : Nat} {cs : List AV} (hvs : denC E vc vs)
    (hb : ObjR E w b c o) (hk : o.known = some (off', cs)) (hs : o.setCells (cs.take off ++ vc ++ cs.drop (off + vc.length)) = some o1) (h2 : off + vc.length ≤ cs.length) :
    ∃ w', (storeCells ⟨b, off, none⟩ vs).run P w = .ok () w' ∧ ObjR E w' b c o1 ∧ Upd b w w' := by
  have hvl := denC_length hvs
  cases o with
  | cells cs' ty =>
    simp only [AObj.known, Option.some.injEq, Prod.mk.injEq] at hk; obtain ⟨_, rfl⟩ := hk
    simp only [AObj.setCells, Option.some.injEq] at hs; subst hs
    obtain ⟨xs, hx, hw⟩ := hb
    have hl := denC_length hx
    obtain ⟨w', hr, hw', hu⟩ := run_storeCells (P := P) vs xs off 0 w hw (.inl rfl) (by omega) hvs.2
    refine ⟨w', hr, ⟨_, ?_, hw'⟩, hu⟩
    rw [Nat.add_zero, over_eq _ _ _ (by omega), hvl]
    exact denC_append (denC_append (denC_take hx _) hvs) (denC_drop hx _)
  | vec cs' ty sz =>
    simp only [AObj.known, Option.some.injEq, Prod.mk.injEq] at hk; obtain ⟨_, rfl⟩ := hk
    simp only [AObj.setCells, Option.some.injEq] at hs; subst hs
    obtain ⟨xs, ys, hx, ⟨m, hw, hm⟩, hsp, hoz⟩ := hb
    have hl := denC_length hx
    obtain ⟨w', hr, hw', hu⟩ := run_storeCells (P := P) vs (xs ++ ys) off 0 w hw hm (by simp; omega) hvs.2
    rw [Nat.add_zero, over_append (by omega)] at hw'
    refine ⟨w', hr, ⟨_, ys, ?_, ⟨m, hw', by simpa [over_length] using hm⟩, ?_, hoz⟩, hu⟩
    · rw [over_eq _ _ _ (by omega), hvl]
      exact denC_append (denC_append (denC_take hx _) hvs) (denC_drop hx _)
    · rw [← hsp]; simp [over_length]
  | ro a b => simp [AObj.setCells] at hs
  | flat m a => simp [AObj.setCells] at hs
  | iter a b => simp [AObj.setCells] at hs
  | shut a b c => simp [AObj.setCells] at hs
  | dead => simp [AObj.setCells] at hs

theorem freeze_block {w : World} {b : Nat} {a : Array Value} {t : TypeId} {m : Nat × Nat} {n : Nat} (h : w.heap[b]? = some (.cells a t m)) : ∃ m', (w.freeze ⟨b, 0, none⟩ n).heap[b]? = some (.cells a t m') := by
  unfold World.freeze
  split
  · exact ⟨m, h⟩
  · simp only [Array.getElem?_modify, if_pos, h, Option.map_some]
    exact ⟨_, rfl⟩
theorem good_over {h : Hint} {ob : List Prop} {nm b off : Nat} {c : Cap} {vc : List AV} {vs : List Value} {v : AV} {x : Value} {o : AObj} {r : Res} {res : Result Next} (hp : Pre E w ⟨[nm], [nm], []⟩ [o]) (hb : E nm = some (b, c)) (hvs : denC E vc vs) (hd : den E v = some x)
    (hr : overA h ob off vc v o = some r) (kk : AllP r.obl) (hrun : ∀ w', (storeCells ⟨b, off, none⟩ vs).run P w = .ok () w' → res = .ok (.value x) w') :
    Good E w ⟨[nm], [nm], []⟩ r.upd r.new r.val res := by
  obtain ⟨b', c', hb', hob⟩ := hp.objs 0 nm o rfl rfl
  rw [hb] at hb'; cases hb'
  unfold overA at hr
  split at hr
  · rename_i o0 cs hk
    split at hr
    · rename_i o1 hs
      split at hr
      · cases hr
        obtain ⟨_, h2, h3, _⟩ := allP_append.1 kk
        subst h3
        obtain ⟨w', hr', ho', hu⟩ := run_storeCells_obj (P := P) hvs hob hk hs h2
        exact ⟨x, w', E, .inl (hrun w' hr'), hd, .write hb ho' hu⟩
      · cases hr
        obtain ⟨_, h2, _⟩ := allP_append.1 kk
        obtain ⟨w', hr', ho', hu⟩ := run_storeCells_obj (P := P) hvs hob hk hs h2
        exact ⟨x, w', E, .inl (hrun w' hr'), hd, .write hb ho' hu⟩
    · cases hr
  · cases hr

theorem zeroCells_eq (zs : List Value) (n : Nat) : (Builtin.zeroCells zs.toArray n).toList = (List.replicate n zs).flatten := by
  rw [← range_mod zs n, Builtin.zeroCells]
  simp

theorem execOp_builtinW {o : Oper} {ρ : Operand → Value} {c : Call} {b : Builtin} {v : Value} {w' : World} (ho : o.op = .call c) (hc : c.callee = .builtin b)
    (h : ∀ cb, (builtin b c.argTypes o.type cb (c.args.map ρ)).run P w = .ok (.value v) w') : (execOp ρ o).run P w = .ok (.value v) w' := by
  simp only [execOp, ho, resolve, hc, Sem.run_bind, Sem.run_pure, Result.andThen_ok, invoke, h]

theorem clear_run {at_ : Array TypeId} {t e ty : TypeId} {Z : Value} {zs : List Value} {b off len cap : Nat} {w' : World} (ht : at_[0]? = some t) (hu : P.underlying t = some (.slice e)) (hZ : (zeroValue e).run P w = .ok Z w) (hze : Z.cells = zs.toArray)
    (hw' : (storeCells ⟨b, off, none⟩ (List.replicate len zs).flatten).run P w = .ok () w') : (Builtin.clear_ at_ ty #[.slice (some ⟨b, off, none⟩) len cap]).run P w = .ok (.tuple #[]) w' := by
  cases len with
  | zero =>
    have e : w' = w := by
      have h2 : (storeCells ⟨b, off, none⟩ ([] : List Value)).run P w = .ok () w := by simp [storeCells]
      simp only [List.replicate_zero, List.flatten_nil] at hw'
      rw [h2] at hw'; cases hw'; rfl
    subst e
    simp only [Builtin.clear_, ht, List.getElem?_toArray, List.getElem?_cons_zero, Sem.run_bind, run_underlying' hu, Result.andThen_ok, Sem.run_pure]
  | succ n =>
    rw [← zeroCells_eq] at hw'
    simp only [Builtin.clear_, ht, List.getElem?_toArray, List.getElem?_cons_zero, Sem.run_bind, run_underlying' hu, Result.andThen_ok, Sem.run_pure, hZ, hze, hw']

theorem good_clear {o : Oper} {ρ : Operand → Value} {c : Call} {x : AV} {X : Value} {h : Hint} {cs : List AObj} {r : Res} (ho : o.op = .call c) (hc : c.callee = .builtin .clear) (hX : c.args.map ρ = #[X]) (hx : den E x = some X)
    (hp : Pre E w ⟨x.name, x.name, []⟩ cs) (hr : clearA P h c x cs = some r) (kk : AllP r.obl) : Good E w ⟨x.name, x.name, []⟩ r.upd r.new r.val ((execOp ρ o).run P w) := by
  unfold clearA at hr
  split at hr
  · rename_i e hu0
    obtain ⟨t, ht, hu⟩ := Option.bind_eq_some_iff.1 hu0
    split at hr
    · rename_i z hz
      split at hr
      · cases hr
      · rename_i hn
        have hn : z.notTuple = true := by simpa using hn
        obtain ⟨Z, hZ, hd⟩ := run_zeroValue (w := w) (E := E) hz
        obtain ⟨zs, hzs, hze⟩ := notTuple_cells hn hd
        split at hr
        · cases hr
          have e : X = .slice none 0 0 := by simpa [den] using hx.symm
          subst e
          refine Good.pure rfl rfl (x := .tuple #[]) (execOp_builtinW ho hc fun cb => ?_) rfl
          simp only [hX, builtin, Builtin.clear_, ht, List.getElem?_toArray, List.getElem?_cons_zero, Sem.run_bind, run_underlying' hu, Result.andThen_ok, Sem.run_pure]
        · rename_i nm off len cap o'
          obtain ⟨b, c', hb, rfl⟩ := slice_den hx
          refine good_over (P := P) hp hb (denC_flat hzs len) (x := .tuple #[]) rfl hr kk fun w' hw' => execOp_builtinW ho hc fun cb => ?_
          simp only [hX, builtin, Sem.run_bind, clear_run ht hu hZ hze hw', Result.andThen_ok, Sem.run_pure]
        · rename_i nm len o'
          obtain ⟨b, c', hb, rfl⟩ := vec_den hx
          refine good_over (P := P) hp hb (denC_flat hzs len) (x := .tuple #[]) rfl hr kk fun w' hw' => execOp_builtinW ho hc fun cb => ?_
          simp only [hX, builtin, Sem.run_bind, clear_run ht hu hZ hze hw', Result.andThen_ok, Sem.run_pure]
        · cases hr
    · cases hr
  · cases hr

/-- Is it a call of a function? -/
def Op.calls : Op → Bool
  | .call c => match c.callee with | .builtin _ => false | _ => true
  | _ => false

theorem act_sound {o : Oper} {ρ : Operand → Value} {h : Hint} {vals : List AV} {F : Foot} {cs : List AObj} {r : Res} (hv : denL E vals = some (o.op.operands.toList.map ρ)) (hf : foot h o.op vals = some F) (hp : Pre E w F cs)
    (hr : act P h o.op vals cs = some r) (kk : AllP r.obl) : Good E w F r.upd r.new r.val ((execOp ρ o).run P w) := by
  generalize ho : o.op = op at hv hf hr
  unfold act at hr
  split at hr
  · -- move
    simp only [foot, Option.some.injEq] at hf
    exact good_moveA (.inl ho) hf hp (den1 (by simpa [Op.operands] using hv)) hr kk
  · simp only [foot, Option.some.injEq] at hf
    exact good_moveA (.inr ho) hf hp (den1 (by simpa [Op.operands] using hv)) hr kk
  · -- pick
    rename_i pc pa pb c a b
    cases hr; simp only [foot, Option.some.injEq] at hf
    simp only [Op.operands, List.map_cons, List.map_nil] at hv
    obtain ⟨h1, hv⟩ := denL_split hv
    obtain ⟨h2, h3⟩ := den2 hv
    have hc : ρ pc = .bool c := by simpa [den] using h1.symm
    refine good_fin (x := if c then ρ pa else ρ pb) (by rw [← hf]; rfl) (by rw [← hf]; rfl) kk fun _ => ⟨?_, by split <;> assumption⟩
    simp [execOp, ho, hc, asBool]
  · -- alloc
    rename_i t
    split at hr
    · rename_i z k hz hnm
      split at hr
      · rename_i hn
        cases hr; simp only [foot, Option.some.injEq] at hf
        rw [hnm] at hf; subst hf
        exact good_new kk fun _ => good_alloc ho hz hn (hp.fresh k (by simp))
      · cases hr
    · cases hr
  · -- box
    rename_i t p v
    split at hr
    · rename_i k hnm
      split at hr
      · rename_i hn
        cases hr; simp only [foot, Option.some.injEq] at hf
        rw [hnm] at hf; subst hf
        exact good_new kk fun _ => good_box ho (den1 (by simpa [Op.operands] using hv)) hn (hp.fresh k (by simp))
      · cases hr
    · cases hr
  · -- build
    rename_i t ps
    split at hr
    · rename_i ob c hb
      split at hr
      · rename_i hps
        cases hr
        have hF : F = .no := by
          cases vals with
          | nil => simp only [foot, Option.some.injEq] at hf; exact hf.symm
          | cons a vs => simp only [foot, Option.some.injEq] at hf; exact hf.symm
        have hps : ps.size = vals.length := by simpa using hps
        have hv' : denL E vals = some (ps.toList.map fun p => ρ p.2) := by
          rw [hv]; simp [Op.operands]
        obtain ⟨p1, p2⟩ := partsA_spec (E := E) (ρ := ρ) ps.toList vals (by simpa using hps) hv'
        obtain ⟨h1, e1, e2, e3⟩ := fin_spec kk
        obtain ⟨x, hx, hd⟩ := buildA_run (w := w) (qs := ps.toList.map fun p => (p.1, ρ p.2)) hb h1 (by rw [p1]; simp) (by rw [p2]; simp)
        rw [e1, e3]
        refine Good.pure (by rw [hF]; rfl) (by rw [hF]; rfl) ?_ hd
        have ee : (ps.map fun (i, x) => (i, ρ x)) = (ps.toList.map fun p => (p.1, ρ p.2)).toArray := by apply Array.ext'; simp
        simp [execOp, ho, ee, hx]
      · cases hr
    · cases hr
  · -- buildSlice
    rename_i t len ps
    split at hr
    · rename_i e k hu hnm
      split at hr
      · rename_i ie z hi hz
        split at hr
        · rename_i hc
          simp only [Bool.and_eq_true, decide_eq_true_eq, beq_iff_eq] at hc
          obtain ⟨⟨⟨⟨⟨⟨c1, c2⟩, c3⟩, c4⟩, c5⟩, c6⟩, c7⟩ := hc
          split at hr
          · rename_i ob c hfl
            have hF : F = ⟨[], [], [k]⟩ := by
              cases vals with
              | nil => simp only [foot, Option.some.injEq] at hf; rw [← hf, hnm]
              | cons a vs => simp only [foot, Option.some.injEq] at hf; rw [← hf, hnm]
            subst hF
            split at hr
            · cases hr
              exact good_seal (good_buildVec ho (by rw [hv]; simp [Op.operands]) hu hi hz c1 c2 c3 c4 c5 c6 c7 (hp.fresh k (by simp)) hfl rfl (by rw [← sealR_obl (h := h)]; exact kk))
            · cases hr
              exact good_buildSlice ho (by rw [hv]; simp [Op.operands]) hu hi hz c1 c2 c3 c4 c5 c6 c7 (hp.fresh k (by simp)) hfl rfl kk
          · cases hr
        · cases hr
      · cases hr
    · cases hr
  · -- makeSlice
    rename_i t p q k1 len k2 cap
    split at hr
    · rename_i e k hu hnm
      split at hr
      · rename_i ie z hi hz
        split at hr
        · rename_i hc
          simp only [Bool.and_eq_true, decide_eq_true_eq, beq_iff_eq] at hc
          obtain ⟨⟨c1, c2⟩, c3⟩ := hc
          cases hr; simp only [foot, Option.some.injEq] at hf
          rw [hnm] at hf; subst hf
          obtain ⟨h1, h2⟩ := den2 (by simpa [Op.operands] using hv)
          exact good_makeSlice ho h1 h2 hu hi hz c1 c2 c3 (hp.fresh k (by simp)) rfl kk
        · cases hr
      · cases hr
    · cases hr
  · -- load
    rename_i t p nm off
    simp only [foot, Option.some.injEq] at hf; subst hf
    split at hr
    · exact good_load ho (den1 (by simpa [Op.operands] using hv)) hp hr kk
    · cases hr
  · -- load out of a slice that is never written
    rename_i t p nm off
    simp only [foot, Option.some.injEq] at hf; subst hf
    split at hr
    · split at hr
      · rename_i hkn
        exact good_loadD ho (den1 (by simpa [Op.operands] using hv)) hp hkn hr kk
      · cases hr
    · cases hr
  · -- load out of a table
    rename_i t p g off
    simp only [foot, Option.some.injEq] at hf; subst hf
    split at hr
    · rename_i l hg
      split at hr
      · rename_i q hq
        cases hr
        obtain ⟨g1, _, g3⟩ := hp.glob.tab hg
        have hx : ρ p = .pointer (some ⟨g, off, none⟩) := by simpa [den] using (den1 (by simpa [Op.operands] using hv) : den E (.gptr g off) = some (ρ p)).symm
        exact good_loadG (r := q) ho hx (g3 := g3) hq kk
      · cases hr
    · cases hr
  · -- store
    rename_i t p q nm off v
    simp only [foot, Option.some.injEq] at hf; subst hf
    obtain ⟨h1, h2⟩ := den2 (by simpa [Op.operands] using hv)
    split at hr
    · exact good_store ho h1 h2 hp hr kk
    · cases hr
  · -- nilCheck
    rename_i p nm off
    cases hr; simp only [foot, Option.some.injEq] at hf
    have h1 := den1 (by simpa [Op.operands] using hv)
    obtain ⟨b, c, hb, hpx⟩ := ptr_den h1
    refine good_fin (x := ρ p) (by rw [← hf]; rfl) (by rw [← hf]; rfl) kk fun _ => ⟨?_, h1⟩
    simp [execOp, ho, hpx]
  · rename_i p nm off
    cases hr; simp only [foot, Option.some.injEq] at hf
    have h1 := den1 (by simpa [Op.operands] using hv)
    have hpx : ρ p = .pointer (some ⟨nm, off, none⟩) := by simpa [den] using h1.symm
    refine good_fin (x := ρ p) (by rw [← hf]; rfl) (by rw [← hf]; rfl) kk fun _ => ⟨?_, h1⟩
    simp [execOp, ho, hpx]
  · rename_i p f a c
    cases hr; simp only [foot, Option.some.injEq] at hf
    have h1 := den1 (by simpa [Op.operands] using hv)
    refine good_fin (x := ρ p) (by rw [← hf]; rfl) (by rw [← hf]; rfl) kk fun _ => ⟨?_, h1⟩
    simp only [den] at h1
    split at h1
    · have hpx := (Option.some.inj h1).symm
      simp [execOp, ho, hpx]
    · cases h1
  · -- binOp
    rename_i op t p q yt x y
    split at hr
    · simp only [foot, Option.some.injEq] at hf
      obtain ⟨h1, h2⟩ := den2 (by simpa [Op.operands] using hv)
      unfold eqA at hr
      split at hr
      · cases hr
      · rename_i hg
        split at hr
        · rename_i a b r hval
          cases hr
          obtain ⟨k1, _⟩ := kk
          have k1 := k1 E w _ _ h1 h2
          obtain ⟨as, ha, e1⟩ := denC_agg.1 h1
          obtain ⟨bs, hb, e2⟩ := denC_agg.1 h2
          rw [e1, e2] at k1
          refine Good.pure (by rw [← hf]; rfl) (by rw [← hf]; rfl) (x := .bool r) ?_ rfl
          simp only [execOp, ho, e1, e2, Sem.run_bind, eqGuard_agg (by simpa using hg), Result.andThen_ok, binOp, Op.equal, Op.maxDepth, k1, Sem.run_pure]
        · rename_i a b r hval
          cases hr
          obtain ⟨k1, _⟩ := kk
          have k1 := k1 E w _ _ h1 h2
          obtain ⟨as, ha, e1⟩ := denC_agg.1 h1
          obtain ⟨bs, hb, e2⟩ := denC_agg.1 h2
          rw [e1, e2] at k1
          refine Good.pure (by rw [← hf]; rfl) (by rw [← hf]; rfl) (x := .bool (!r)) ?_ rfl
          simp only [execOp, ho, e1, e2, Sem.run_bind, eqGuard_agg (by simpa using hg), Result.andThen_ok, binOp, Op.equal, Op.maxDepth, k1, Sem.run_pure]
        · cases hr
    simp only [foot, Option.some.injEq] at hf
    obtain ⟨h1, h2⟩ := den2 (by simpa [Op.operands] using hv)
    split at hr
    · rename_i r hnil
      cases hr
      refine good_fin (x := .bool r) (by rw [← hf]; rfl) (by rw [← hf]; rfl) kk fun _ => ⟨?_, rfl⟩
      have := nilEq_run (P := P) (w := w) (op := .eql) (.inl rfl) h1 h2 hnil
      simp only [execOp, ho, Sem.run_bind, if_true] at this ⊢
      rw [this]; rfl
    · rename_i r hnil
      cases hr
      refine good_fin (x := .bool (!r)) (by rw [← hf]; rfl) (by rw [← hf]; rfl) kk fun _ => ⟨?_, rfl⟩
      have := nilEq_run (P := P) (w := w) (op := .neq) (.inr rfl) h1 h2 hnil
      simp only [execOp, ho, Sem.run_bind] at this ⊢
      rw [this]; rfl
    obtain ⟨ob, v, hq, rfl⟩ := ok1_some hr
    obtain ⟨g1, e1, e2, e3⟩ := fin_spec kk
    obtain ⟨z, hz, hd⟩ := binA_run (w := w) (p := p) (q := q) h1 h2 hq g1
    rw [e1, e3]
    refine Good.pure (by rw [← hf]; rfl) (by rw [← hf]; rfl) ?_ hd
    simp only [execOp, ho, Sem.run_bind] at hz ⊢
    rw [hz]; rfl
  · -- unOp
    rename_i op t p x
    obtain ⟨ob, v, hq, rfl⟩ := ok1_some hr
    simp only [foot, Option.some.injEq] at hf
    have h1 := den1 (by simpa [Op.operands] using hv)
    obtain ⟨g1, e1, e2, e3⟩ := fin_spec kk
    obtain ⟨z, hz, hd⟩ := unA_run (P := P) (w := w) h1 hq
    rw [e1, e3]
    refine Good.pure (by rw [← hf]; rfl) (by rw [← hf]; rfl) ?_ hd
    simp only [execOp, ho, Sem.run_bind, hz]; rfl
  · -- convert
    rename_i src dst p x
    have h1 := den1 (by simpa [Op.operands] using hv)
    split at hr
    · rename_i d e s k hs hd hnm
      split at hr
      · rename_i he
        cases hr; simp only [foot, Option.some.injEq] at hf
        rw [hnm] at hf; subst hf
        exact good_new kk fun _ => good_bytes ho h1 hs hd he (hp.fresh k (by simp))
      · cases hr
    · rename_i e hs hd hnm
      split at hr
      · rename_i he
        cases hr; simp only [foot, Option.some.injEq] at hf
        have hpx : ρ p = .slice none 0 0 := by simpa [den] using h1.symm
        refine good_fin (x := .string ByteArray.empty) (by rw [← hf]; rfl) (by rw [← hf]) kk fun _ => ⟨?_, rfl⟩
        simp [execOp, ho, hpx, convert, run_underlying' hs, run_underlying' hd, run_underlying' he, Conv.bytesToString]
      · cases hr
    · rename_i x' _ _ _ _ _ e o' hs hd hnm
      split at hr
      · cases hr
      rename_i hnd0
      have hnd : x'.isDsl = false := by simpa using hnd0
      split at hr
      · rename_i _ _ _ ob n c s he hel hval
        cases hr
        obtain ⟨k1, k2, _⟩ := allP_append.1 kk |>.imp id id
        have hF : F = ⟨x'.name, [], []⟩ := by
          unfold elemsA at hel
          split at hel
          · rename_i h0; exact absurd h0 (by simp)
          · rename_i h0; exact absurd h0 (by simp)
          · simp only [foot, Option.some.injEq] at hf; exact hf.symm
          · simp only [foot, Option.some.injEq] at hf; exact hf.symm
          · simp [AV.isDsl] at hnd
          · cases hel
        exact good_string ho h1 hs hd he hF hp hel k1 k2 hnd
      · cases hr
    · rename_i t nm off c ty hs hd hnm
      split at hr
      · rename_i j hj
        split at hr
        · rename_i hsz
          cases hr
          simp only [foot, Option.some.injEq] at hf
          subst hf
          obtain ⟨k1, _⟩ := kk
          obtain ⟨b, c', hb, hpx⟩ := ptr_den h1
          obtain ⟨b', c'', hb', xs, hxs, hw⟩ := hp.objs 0 nm _ rfl rfl
          rw [hb] at hb'; cases hb'
          have hl := denC_length hxs
          refine Good.pure rfl rfl (x := ρ p) ?_ h1
          have := Lib.run_to_unsafe (P := P) w (src := src) (dst := dst) (e := ty) (cells := xs.toArray.size) ⟨b, off, none⟩ hs hd hj hsz (by simp [World.shape?, hw]) (by have k1 : off < c.length := k1; simp; omega)
          simp only [execOp, ho, Sem.run_bind, hpx, this, Result.andThen_ok, Sem.run_pure]
        · cases hr
      · cases hr
    · rename_i u nm off c ty hs hd hnm
      split at hr
      · rename_i j hj
        cases hr
        simp only [foot, Option.some.injEq] at hf
        subst hf
        obtain ⟨k1, _⟩ := kk
        obtain ⟨b, c', hb, hpx⟩ := ptr_den h1
        obtain ⟨b', c'', hb', xs, hxs, hw⟩ := hp.objs 0 nm _ rfl rfl
        rw [hb] at hb'; cases hb'
        have hl := denC_length hxs
        refine Good.pure rfl rfl (x := ρ p) ?_ h1
        have := Lib.run_from_unsafe (P := P) w (src := src) (dst := dst) (e := ty) (cells := xs.toArray.size) ⟨b, off, none⟩ hs hd hj (by simp [World.shape?, hw]) (by
          have k1 : liesAt P P.depth ty (c.length / P.cellsOf ty) off u 1 = true := k1
          simpa [hl] using k1)
        simp only [execOp, ho, Sem.run_bind, hpx, this, Result.andThen_ok, Sem.run_pure]
      · cases hr
    · rename_i x' _ _ _ _ _ hnm _
      obtain ⟨ob, v, hq, rfl⟩ := ok1_some hr
      have hF : F.wr = false ∧ F.al = [] := by
        cases x' <;> simp only [foot, Option.some.injEq] at hf <;> subst hf <;> exact ⟨rfl, by first | rfl | exact hnm⟩
      obtain ⟨g1, e1, e2, e3⟩ := fin_spec kk
      obtain ⟨z, hz, hd⟩ := convA_run (w := w) h1 hq
      rw [e1, e3]
      refine Good.pure hF.1 hF.2 ?_ hd
      simp only [execOp, ho, Sem.run_bind, hz]; rfl
    · cases hr
  · -- makeInterface
    rename_i t p v
    simp only [foot, Option.some.injEq] at hf
    have h1 := den1 (by simpa [Op.operands] using hv)
    split at hr
    · cases hr
    · rename_i d hni hu
      split at hr
      · cases hr
        refine good_fin (x := .iface t (ρ p)) (by rw [← hf]; rfl) (by rw [← hf]; rfl) kk fun _ => ⟨?_, by simp [den, h1]⟩
        simp only [execOp, ho, Instr.makeInterface, Sem.run_bind, run_underlying' hu, Result.andThen_ok]
        cases d <;> first | rfl | exact absurd rfl (hni _)
      · cases hr
    · cases hr
  · -- makeFunc
    rename_i f a c
    split at hr
    · rename_i hl
      cases hr
      have hF : F = .no := by
        cases vals with
        | nil => simp only [foot, Option.some.injEq] at hf; exact hf.symm
        | cons a vs => simp only [foot, Option.some.injEq] at hf; exact hf.symm
      have hv' : denL E vals = some ((a.map ρ).toList ++ (c.map ρ).toList) := by rw [hv]; simp [Op.operands]
      have h1 : denL E (vals.take a.size) = some (a.map ρ).toList := by
        have := denL_take hv' a.size; rw [this]; simp
      have h2 : denL E (vals.drop a.size) = some (c.map ρ).toList := by
        have := denL_drop hv' a.size; rw [this]; simp
      refine good_fin (x := .func (.func f) (a.map ρ) (c.map ρ)) (by rw [hF]; rfl) (by rw [hF]; rfl) kk fun _ => ⟨?_, by simp [den, h1, h2]; constructor <;> (apply Array.ext'; simp)⟩
      simp only [execOp, ho, Instr.makeFunc, Sem.run_bind]; rfl
    · cases hr
  · -- slice
    rename_i t p lo hi mx x vs
    split at hr
    · cases hr
    · rename_i hm
      rw [operands_slice] at hv
      simp only [List.map_cons] at hv
      obtain ⟨h1, h2⟩ := denL_split hv
      exact good_sliceE ho h1 h2 hf hp (by intro hh; cases hi <;> simp_all) hr kk
  · -- fieldAddr
    rename_i t p f nm off
    simp only [foot, Option.some.injEq] at hf
    split at hr
    · rename_i fs hu
      split at hr
      · rename_i fd hfd
        split at hr
        · rename_i hc
          simp only [Bool.and_eq_true, decide_eq_true_eq] at hc
          obtain ⟨i, hi⟩ := Option.isSome_iff_exists.1 hc.1
          cases hr
          obtain ⟨b, c, hb, hpx⟩ := ptr_den (den1 (by simpa [Op.operands] using hv))
          refine good_fin (x := .pointer (some ⟨b, off + fd.offset, none⟩)) (by rw [← hf]; rfl) (by rw [← hf]; rfl) kk fun _ => ⟨?_, by simp [den, hb]⟩
          simp only [execOp, ho, Instr.fieldAt, Sem.run_bind, run_underlying' hu, Result.andThen_ok, hfd, hpx, Instr.sureAddr, Sem.run_pure, fieldPlace, run_sizeOf' hi]
          rw [if_neg hc.2]
          simp only [Sem.run_pure, Result.andThen_ok, Addr.add_none]
        · cases hr
      · cases hr
    · cases hr
  · -- fieldAddr, in a slice that is never written
    rename_i t p f nm off
    simp only [foot, Option.some.injEq] at hf
    split at hr
    · rename_i fs hu
      split at hr
      · rename_i fd hfd
        split at hr
        · rename_i hc
          simp only [Bool.and_eq_true, decide_eq_true_eq] at hc
          obtain ⟨i, hi⟩ := Option.isSome_iff_exists.1 hc.1
          cases hr
          obtain ⟨b, c, hb, hz, hpx⟩ := dptr_den (den1 (by simpa [Op.operands] using hv))
          refine good_fin (x := .pointer (some ⟨b, c.o + (off + fd.offset), none⟩)) (by rw [← hf]; rfl) (by rw [← hf]; rfl) kk fun _ => ⟨?_, by simp [den, hb, hz]⟩
          simp only [execOp, ho, Instr.fieldAt, Sem.run_bind, run_underlying' hu, Result.andThen_ok, hfd, hpx, Instr.sureAddr, Sem.run_pure, fieldPlace, run_sizeOf' hi]
          rw [if_neg hc.2]
          simp only [Sem.run_pure, Result.andThen_ok, Addr.add_none, Nat.add_assoc]
        · cases hr
      · cases hr
    · cases hr
  · -- fieldAddr, in a table
    rename_i t p f nm off
    simp only [foot, Option.some.injEq] at hf
    split at hr
    · rename_i fs hu
      split at hr
      · rename_i fd hfd
        split at hr
        · rename_i hc
          simp only [Bool.and_eq_true, decide_eq_true_eq] at hc
          obtain ⟨i, hi⟩ := Option.isSome_iff_exists.1 hc.1
          cases hr
          have hpx : ρ p = .pointer (some ⟨nm, off, none⟩) := by simpa [den] using (den1 (by simpa [Op.operands] using hv) : den E (.gptr nm off) = some (ρ p)).symm
          refine good_fin (x := .pointer (some ⟨nm, off + fd.offset, none⟩)) (by rw [← hf]; rfl) (by rw [← hf]; rfl) kk fun _ => ⟨?_, by simp [den]⟩
          simp only [execOp, ho, Instr.fieldAt, Sem.run_bind, run_underlying' hu, Result.andThen_ok, hfd, hpx, Instr.sureAddr, Sem.run_pure, fieldPlace, run_sizeOf' hi]
          rw [if_neg hc.2]
          simp only [Sem.run_pure, Result.andThen_ok, Addr.add_none]
        · cases hr
      · cases hr
    · cases hr
  · -- field
    rename_i t p f c
    simp only [foot, Option.some.injEq] at hf
    split at hr
    · rename_i fs hu
      split at hr
      · rename_i fd hfd
        obtain ⟨xs, hxs, hpx⟩ := denC_agg.1 (den1 (by simpa [Op.operands] using hv))
        have hrun : ∀ x : Value, (part fd.type xs.toArray fd.offset).run P w = .ok x w → (execOp ρ o).run P w = .ok (.value x) w := by
          intro x hx
          simp only [execOp, ho, Instr.field, Sem.run_bind, run_underlying' hu, Result.andThen_ok, hfd, hpx, asAgg, Sem.run_pure, hx]
        split at hr
        · rename_i d hd
          split at hr
          · rename_i ha
            cases hr
            obtain ⟨x, hx, hdx⟩ := partA_run (P := P) (w := w) (t := fd.type) (off := fd.offset) (v := .agg ((c.drop fd.offset).take (P.cellsOf fd.type))) hxs (by simp [partA, hd, ha])
            exact good_fin (by rw [← hf]; rfl) (by rw [← hf]; rfl) kk fun _ => ⟨hrun x hx, hdx⟩
          · rename_i ha
            split at hr
            · rename_i v hv'
              cases hr
              obtain ⟨k1, _⟩ := kk
              obtain ⟨x, hx, hdx⟩ := partA_run (P := P) (w := w) (t := fd.type) (off := fd.offset) (v := v) hxs (by simp only [partA, hd]; rw [if_neg ha]; exact k1)
              exact Good.pure (by rw [← hf]; rfl) (by rw [← hf]; rfl) (hrun x hx) hdx
            · simp only [Option.map_eq_some_iff] at hr
              obtain ⟨v, k1, rfl⟩ := hr
              obtain ⟨x, hx, hdx⟩ := partA_run (P := P) (w := w) (t := fd.type) (off := fd.offset) (v := v) hxs (by simp only [partA, hd]; rw [if_neg ha]; exact k1)
              exact Good.pure (by rw [← hf]; rfl) (by rw [← hf]; rfl) (hrun x hx) hdx
        · cases hr
      · cases hr
    · cases hr
  · -- indexAddr
    rename_i t p q x k i
    simp only [foot, Option.some.injEq] at hf
    obtain ⟨h1, h2⟩ := den2 (by simpa [Op.operands] using hv)
    have hq : ρ q = .int k i := by simpa [den] using h2.symm
    split at hr
    · rename_i n e nm off hu
      split at hr
      · rename_i hi
        obtain ⟨ie, hi⟩ := Option.isSome_iff_exists.1 hi
        cases hr
        obtain ⟨b, c, hb, hpx⟩ := ptr_den h1
        refine good_fin (x := .pointer (some ⟨b, off + i.toNat * P.cellsOf e, none⟩)) (by rw [← hf]; rfl) (by rw [← hf]; rfl) kk fun hob => ⟨?_, by simp [den, hb]⟩
        obtain ⟨o1, o2, _⟩ := hob
        simp only [execOp, ho, Instr.indexAt, Sem.run_bind, hq, asIntOf, Sem.run_pure, Result.andThen_ok, run_underlying' hu, hpx, Instr.sureAddr, run_sizeOf' hi]
        rw [if_pos ⟨o1, o2⟩]
        simp only [Sem.run_bind, run_sizeOf' hi, Result.andThen_ok, Sem.run_pure, Addr.add_none]
      · cases hr
    · rename_i n e nm off hu
      split at hr
      · rename_i hi
        obtain ⟨ie, hi⟩ := Option.isSome_iff_exists.1 hi
        cases hr
        have hpx : ρ p = .pointer (some ⟨nm, off, none⟩) := by simpa [den] using h1.symm
        refine good_fin (x := .pointer (some ⟨nm, off + i.toNat * P.cellsOf e, none⟩)) (by rw [← hf]; rfl) (by rw [← hf]; rfl) kk fun hob => ⟨?_, by simp [den]⟩
        obtain ⟨o1, o2, _⟩ := hob
        simp only [execOp, ho, Instr.indexAt, Sem.run_bind, hq, asIntOf, Sem.run_pure, Result.andThen_ok, run_underlying' hu, hpx, Instr.sureAddr, run_sizeOf' hi]
        rw [if_pos ⟨o1, o2⟩]
        simp only [Sem.run_bind, run_sizeOf' hi, Result.andThen_ok, Sem.run_pure, Addr.add_none]
      · cases hr
    · rename_i e nm off len cap hu
      split at hr
      · rename_i hi
        obtain ⟨ie, hi⟩ := Option.isSome_iff_exists.1 hi
        cases hr
        obtain ⟨b, c, hb, hpx⟩ := slice_den h1
        refine good_fin (x := .pointer (some ⟨b, off + i.toNat * P.cellsOf e, none⟩)) (by rw [← hf]; rfl) (by rw [← hf]; rfl) kk fun hob => ⟨?_, by simp [den, hb]⟩
        obtain ⟨o1, o2, _⟩ := hob
        simp only [execOp, ho, Instr.indexAt, Sem.run_bind, hq, asIntOf, Sem.run_pure, Result.andThen_ok, run_underlying' hu, hpx, Instr.sureAddr, run_sizeOf' hi]
        rw [if_pos ⟨o1, o2⟩]
        simp only [Sem.run_bind, run_sizeOf' hi, Result.andThen_ok, Sem.run_pure, Addr.add_none]
      · cases hr
    · rename_i e nm len hu
      split at hr
      · rename_i hi
        obtain ⟨ie, hi⟩ := Option.isSome_iff_exists.1 hi
        cases hr
        obtain ⟨b, c, hb, hpx⟩ := vec_den h1
        refine good_fin (x := .pointer (some ⟨b, i.toNat * P.cellsOf e, none⟩)) (by rw [← hf]; rfl) (by rw [← hf]; rfl) kk fun hob => ⟨?_, by simp [den, hb]⟩
        obtain ⟨o1, o2, _⟩ := hob
        simp only [execOp, ho, Instr.indexAt, Sem.run_bind, hq, asIntOf, Sem.run_pure, Result.andThen_ok, run_underlying' hu, hpx, Instr.sureAddr, run_sizeOf' hi]
        rw [if_pos ⟨o1, o2⟩]
        simp only [Sem.run_bind, run_sizeOf' hi, Result.andThen_ok, Sem.run_pure, Addr.add_none, Nat.zero_add]
      · cases hr
    · rename_i e nm len hu
      split at hr
      · rename_i hi
        obtain ⟨ie, hi⟩ := Option.isSome_iff_exists.1 hi
        cases hr
        obtain ⟨b, c, hb, hpx⟩ := dsl_den h1
        refine good_fin (x := .pointer (some ⟨b, c.o + i.toNat * P.cellsOf e, none⟩)) (by rw [← hf]; rfl) (by rw [← hf]; rfl) kk fun hob => ?_
        obtain ⟨o1, o2, _⟩ := hob
        rcases hpx with ⟨_, h0, _⟩ | ⟨hz, _, hpx⟩
        · subst h0; exact absurd o2 (by have : ¬ i < ((0 : Nat) : Int) := by omega
                                        exact this)
        · refine ⟨?_, by simp [den, hb, hz]⟩
          simp only [execOp, ho, Instr.indexAt, Sem.run_bind, hq, asIntOf, Sem.run_pure, Result.andThen_ok, run_underlying' hu, hpx, Instr.sureAddr, run_sizeOf' hi]
          rw [if_pos ⟨o1, o2⟩]
          simp only [Sem.run_bind, run_sizeOf' hi, Result.andThen_ok, Sem.run_pure, Addr.add_none]
      · cases hr
    · cases hr
  · -- index
    rename_i t p q x k i
    simp only [foot, Option.some.injEq] at hf
    obtain ⟨h1, h2⟩ := den2 (by simpa [Op.operands] using hv)
    have hq : ρ q = .int k i := by simpa [den] using h2.symm
    split at hr
    · rename_i s hu
      have hpx : ρ p = .string ⟨s.toArray⟩ := by simpa [den] using h1.symm
      have key : ∀ c : UInt8, 0 ≤ i → s[i.toNat]? = some c → (execOp ρ o).run P w = .ok (.value (.int .u8 c.toNat)) w := by
        intro c h0 hc
        have hget : (ByteArray.mk s.toArray)[i.toNat]? = some c := by
          obtain ⟨hlt, he⟩ := List.getElem?_eq_some_iff.1 hc
          have hlt' : i.toNat < (ByteArray.mk s.toArray).size := hlt
          rw [getElem?_pos (ByteArray.mk s.toArray) i.toNat hlt', ← he]
          rfl
        simp only [execOp, ho, Instr.index, Sem.run_bind, hq, asIntOf, Sem.run_pure, Result.andThen_ok, run_underlying' hu, hpx]
        rw [if_pos h0, hget]
        rfl
      split at hr
      · rename_i b hv'
        cases hr
        obtain ⟨o1, o2, _⟩ := kk
        obtain ⟨c, hc, hcb⟩ := Option.map_eq_some_iff.1 o2
        refine Good.pure (by rw [← hf]; rfl) (by rw [← hf]; rfl) (x := .int .u8 b) ?_ rfl
        rw [← hcb]; exact key c o1 hc
      · cases hr
      · obtain ⟨c, hc, rfl⟩ := Option.map_eq_some_iff.1 hr
        obtain ⟨o1, _⟩ := kk
        exact Good.pure (by rw [← hf]; rfl) (by rw [← hf]; rfl) (x := .int .u8 c.toNat) (key c o1 hc) rfl
    · rename_i n e c hu
      obtain ⟨xs, hxs, hpx⟩ := denC_agg.1 h1
      split at hr
      · rename_i d hd
        obtain ⟨ie, hie⟩ := underlying_info hd
        have key : ∀ x, 0 ≤ i → i < n → (part e xs.toArray (i.toNat * P.cellsOf e)).run P w = .ok x w → (execOp ρ o).run P w = .ok (.value x) w := by
          intro x o1 o2 hx
          simp only [execOp, ho, Instr.index, Sem.run_bind, hq, asIntOf, Sem.run_pure, Result.andThen_ok, run_underlying' hu, hpx]
          rw [if_pos ⟨o1, o2⟩]
          simp only [Sem.run_bind, run_sizeOf' hie, Result.andThen_ok, hx]
        split at hr
        · rename_i ha
          cases hr
          obtain ⟨x, hx, hdx⟩ := partA_run (P := P) (w := w) (t := e) (off := i.toNat * P.cellsOf e) (v := .agg ((c.drop (i.toNat * P.cellsOf e)).take (P.cellsOf e))) hxs (by simp [partA, hd, ha])
          exact good_fin (by rw [← hf]; rfl) (by rw [← hf]; rfl) kk fun hob => ⟨key x hob.1 hob.2.1 hx, hdx⟩
        · rename_i ha
          split at hr
          · rename_i v hv'
            cases hr
            obtain ⟨k1, k2, k3, _⟩ := kk
            obtain ⟨x, hx, hdx⟩ := partA_run (P := P) (w := w) (t := e) (off := i.toNat * P.cellsOf e) (v := v) hxs (by simp only [partA, hd]; rw [if_neg ha]; exact k3)
            exact Good.pure (by rw [← hf]; rfl) (by rw [← hf]; rfl) (key x k1 k2 hx) hdx
          · obtain ⟨v, k3, rfl⟩ := Option.map_eq_some_iff.1 hr
            obtain ⟨k1, k2, _⟩ := kk
            obtain ⟨x, hx, hdx⟩ := partA_run (P := P) (w := w) (t := e) (off := i.toNat * P.cellsOf e) (v := v) hxs (by simp only [partA, hd]; rw [if_neg ha]; exact k3)
            exact Good.pure (by rw [← hf]; rfl) (by rw [← hf]; rfl) (key x k1 k2 hx) hdx
      · cases hr
    · cases hr
  · -- extract
    rename_i p i vs
    simp only [foot, Option.some.injEq] at hf
    have h1 := den1 (by simpa [Op.operands] using hv)
    obtain ⟨v, hv', rfl⟩ := Option.map_eq_some_iff.1 hr
    simp only [den, Option.map_eq_some_iff] at h1
    obtain ⟨xs, hxs, hpx⟩ := h1
    obtain ⟨x, hx, hdx⟩ := denL_get hxs hv'
    refine good_fin (by rw [← hf]; rfl) (by rw [← hf]; rfl) kk fun _ => ⟨?_, hdx⟩
    simp only [execOp, ho, Instr.extract, Sem.run_bind, ← hpx, List.getElem?_toArray, hx, Sem.run_pure, Result.andThen_ok]
  · -- range
    rename_i t p s
    split at hr
    · rename_i k hu hnm
      cases hr; simp only [foot, Option.some.injEq] at hf
      rw [hnm] at hf; subst hf
      have hpx : ρ p = .string ⟨s.toArray⟩ := by
        have := den1 (by simpa [Op.operands] using hv); simpa [den] using this.symm
      refine good_new kk fun _ => ⟨.pointer (some ⟨w.heap.size, 0, none⟩), { w with heap := w.heap.push (.stringIter ⟨s.toArray⟩ 0) }, E.set k (w.heap.size, 0), .inl ?_, by simp [den, Env.set_same], .push rfl rfl rfl rfl (hp.fresh k (by simp)) (push_new rfl) (fun e => absurd rfl e)⟩
      simp only [execOp, ho, Instr.range, Sem.run_bind, run_underlying' hu, Result.andThen_ok, hpx, Sem.run_pure, run_newObj]
    · cases hr
  · -- next
    rename_i p nm
    simp only [foot, Option.some.injEq] at hf
    exact good_next (h := h) ho (den1 (by simpa [Op.operands] using hv)) hf.symm hp (by simpa only [act] using hr) kk
  · -- the builtin functions
    rename_i c
    split at hr
    · rename_i hc
      have hv' := args1 hc hv
      split at hr
      · rename_i t x ht
        have hF : F = .no := by simp only [foot, hc, Option.some.injEq] at hf; exact hf.symm
        obtain ⟨v, hl, rfl⟩ := Option.map_eq_some_iff.1 hr
        obtain ⟨X, hX⟩ : ∃ X, c.args.map ρ = #[X] := by
          have hl1 := denL_length hv'
          generalize c.args.map ρ = A at hl1
          obtain ⟨l⟩ := A
          match l, hl1 with
          | [X], _ => exact ⟨X, rfl⟩
        rw [hX] at hv'
        obtain ⟨z, hz, hdz⟩ := lenA_run (P := P) (w := w) hl (den1 hv') c.argTypes ht o.type
        refine good_fin (by rw [hF]; rfl) (by rw [hF]; rfl) kk fun _ => ⟨execOp_builtin1 ho hc fun cb => ?_, hdz⟩
        simp only [hX, builtin, Sem.run_bind, hz, Result.andThen_ok, Sem.run_pure]
      · cases hr
    · rename_i hc
      have hv' := args1 hc hv
      split at hr
      · rename_i x y
        have hF : F = .no := by simp only [foot, hc, Option.some.injEq] at hf; exact hf.symm
        obtain ⟨v, hl, rfl⟩ := Option.map_eq_some_iff.1 hr
        unfold minA at hl
        split at hl
        · rename_i k1 a k2 b
          cases hl
          have hX : c.args.map ρ = #[.int k1 a, .int k2 b] := by
            have : denL E [AV.int k1 a, AV.int k2 b] = some [.int k1 a, .int k2 b] := by simp [denL, den]
            rw [this] at hv'
            apply Array.ext'; simpa using (Option.some.inj hv').symm
          refine good_fin (by rw [hF]; rfl) (by rw [hF]; rfl) kk fun _ => ⟨execOp_builtin1 ho hc fun cb => ?_, rfl⟩
          simp only [hX, builtin, Builtin.min_]
          simp [Builtin.min2]
        · cases hl
      · cases hr
    · rename_i hc
      have hv' := args1 hc hv
      split at hr
      · rename_i x y
        have hF : F = .no := by simp only [foot, hc, Option.some.injEq] at hf; exact hf.symm
        obtain ⟨v, hl, rfl⟩ := Option.map_eq_some_iff.1 hr
        unfold maxA at hl
        split at hl
        · rename_i k1 a k2 b
          cases hl
          have hX : c.args.map ρ = #[.int k1 a, .int k2 b] := by
            have : denL E [AV.int k1 a, AV.int k2 b] = some [.int k1 a, .int k2 b] := by simp [denL, den]
            rw [this] at hv'
            apply Array.ext'; simpa using (Option.some.inj hv').symm
          refine good_fin (by rw [hF]; rfl) (by rw [hF]; rfl) kk fun _ => ⟨execOp_builtin1 ho hc fun cb => ?_, rfl⟩
          simp only [hX, builtin, Builtin.max_]
          simp [Builtin.max2]
        · cases hl
      · cases hr
    · rename_i hc
      have hv' := args1 hc hv
      split at hr
      · rename_i s x
        simp only [foot, hc, Option.some.injEq] at hf
        have hl : c.args.size = 2 := by have := denL_length hv'; simpa using this
        obtain ⟨p, q, ha⟩ : ∃ p q, c.args.toList = [p, q] := by
          cases hh : c.args with
          | mk l =>
            rw [hh] at hl
            match l, hl with
            | [p, q], _ => exact ⟨p, q, rfl⟩
        have hv2 : denL E [s, x] = some [ρ p, ρ q] := by rw [hv']; simp [ha]
        obtain ⟨h1, h2⟩ := den2 hv2
        obtain ⟨r0, hr0, rfl⟩ := Option.map_eq_some_iff.1 hr
        exact good_seal (good_append ho hc ha h1 h2 hf.symm hp hr0 (by rw [← sealR_obl (h := h)]; exact kk))
      · cases hr
    · rename_i hc
      have hv' := args1 hc hv
      split at hr
      · rename_i x
        simp only [foot, hc, Option.some.injEq] at hf
        subst hf
        obtain ⟨X, hX⟩ : ∃ X, c.args.map ρ = #[X] := by
          have hl1 := denL_length hv'
          generalize c.args.map ρ = A at hl1
          obtain ⟨l⟩ := A
          match l, hl1 with
          | [X], _ => exact ⟨X, rfl⟩
        rw [hX] at hv'
        exact good_clear ho hc hX (den1 hv') hp hr kk
      · cases hr
    · rename_i hc
      have hv' := args1 hc hv
      unfold sliceDataA at hr
      split at hr
      · cases hr
        have hX : c.args.map ρ = #[.slice none 0 0] := by
          have : denL E [AV.nilslice] = some [.slice none 0 0] := by simp [denL, den]
          rw [this] at hv'
          apply Array.ext'; simpa using (Option.some.inj hv').symm
        have hF : F = ⟨[], [], []⟩ := by simp only [foot, hc, Option.some.injEq] at hf; exact hf.symm
        refine Good.pure (by rw [hF]; rfl) (by rw [hF]) (x := .pointer none) (execOp_builtinW ho hc fun cb => ?_) rfl
        simp only [hX, builtin, Sem.run_bind, Lib.run_unsafeSliceData_nil w, Result.andThen_ok, Sem.run_pure]
      · rename_i nm len cs' t sz
        cases hr
        have hF : F = ⟨[nm], [], []⟩ := by simp only [foot, hc, Option.some.injEq] at hf; exact hf.symm
        subst hF
        obtain ⟨k1, _⟩ := kk
        have k1 : 0 < cs'.length := k1
        obtain ⟨X, hX⟩ : ∃ X, c.args.map ρ = #[X] := by
          have hl1 := denL_length hv'
          generalize c.args.map ρ = A at hl1
          obtain ⟨l⟩ := A
          match l, hl1 with
          | [X], _ => exact ⟨X, rfl⟩
        rw [hX] at hv'
        obtain ⟨b, cap, hb, rfl⟩ := vec_den (den1 hv')
        obtain ⟨b', c'', hb', xs, ys, hxs, hw, hl, hoz⟩ := hp.objs 0 nm _ rfl rfl
        rw [hb] at hb'; cases hb'
        have hcap : cap.n ≠ 0 := by
          intro h0
          rw [h0] at hl
          have := denC_length hxs
          simp at hl; rw [hl.1] at this; simp at this; omega
        refine Good.pure rfl rfl (x := .pointer (some ⟨b, 0, none⟩)) (execOp_builtinW ho hc fun cb => ?_) (by simp [den, hb])
        simp only [hX, builtin, Sem.run_bind, Lib.run_unsafeSliceData_row w _ _ _ _ _ hcap, Result.andThen_ok, Sem.run_pure]
      · rename_i nm len cs' t sz
        cases hr
        have hF : F = ⟨[nm], [], []⟩ := by simp only [foot, hc, Option.some.injEq] at hf; exact hf.symm
        subst hF
        obtain ⟨k1, _⟩ := kk
        have k1 : 0 < cs'.length := k1
        obtain ⟨X, hX⟩ : ∃ X, c.args.map ρ = #[X] := by
          have hl1 := denL_length hv'
          generalize c.args.map ρ = A at hl1
          obtain ⟨l⟩ := A
          match l, hl1 with
          | [X], _ => exact ⟨X, rfl⟩
        rw [hX] at hv'
        obtain ⟨b, cap, hb, rfl⟩ := vec_den (den1 hv')
        obtain ⟨b', c'', hb', xs, ys, hxs, hw, hl, hoz⟩ := hp.objs 0 nm _ rfl rfl
        rw [hb] at hb'; cases hb'
        have hcap : cap.n ≠ 0 := by
          intro h0
          rw [h0] at hl
          have := denC_length hxs
          simp at hl; rw [hl.1] at this; simp at this; omega
        refine Good.pure rfl rfl (x := .pointer (some ⟨b, 0, none⟩)) (execOp_builtinW ho hc fun cb => ?_) (by simp [den, hb])
        simp only [hX, builtin, Sem.run_bind, Lib.run_unsafeSliceData_row w _ _ _ _ _ hcap, Result.andThen_ok, Sem.run_pure]
      · cases hr
    · rename_i hc
      have hv' := args1 hc hv
      split at hr
      · rename_i t x ht
        have hF : F = .no := by simp only [foot, hc, Option.some.injEq] at hf; exact hf.symm
        obtain ⟨v, hl, rfl⟩ := Option.map_eq_some_iff.1 hr
        obtain ⟨X, hX⟩ : ∃ X, c.args.map ρ = #[X] := by
          have hl1 := denL_length hv'
          generalize c.args.map ρ = A at hl1
          obtain ⟨l⟩ := A
          match l, hl1 with
          | [X], _ => exact ⟨X, rfl⟩
        rw [hX] at hv'
        obtain ⟨z, hz, hdz⟩ := capA_run (P := P) (w := w) hl (den1 hv') c.argTypes ht o.type
        refine good_fin (by rw [hF]; rfl) (by rw [hF]; rfl) kk fun _ => ⟨execOp_builtin1 ho hc fun cb => ?_, hdz⟩
        simp only [hX, builtin, Sem.run_bind, hz, Result.andThen_ok, Sem.run_pure]
      · cases hr
    · rename_i hc
      have hv' := args1 hc hv
      split at hr
      · rename_i e s he
        split at hr
        · rename_i hcond
          simp only [Bool.and_eq_true] at hcond
          obtain ⟨hie, hsl⟩ := hcond
          obtain ⟨ie, hi⟩ := Option.isSome_iff_exists.1 hie
          simp only [Option.bind_eq_some_iff] at he
          obtain ⟨t0, h0, hu0⟩ := he
          cases hr
          have hF : F = ⟨s.name ++ [], s.name, []⟩ := by simp only [foot, hc, Option.some.injEq, AV.name] at hf; exact hf.symm
          subst hF
          obtain ⟨X, Y, hX⟩ : ∃ X Y, c.args.map ρ = #[X, Y] := by
            have hl1 := denL_length hv'
            generalize c.args.map ρ = A at hl1
            obtain ⟨l⟩ := A
            match l, hl1 with
            | [X, Y], _ => exact ⟨X, Y, rfl⟩
          rw [hX] at hv'
          obtain ⟨d1, d2⟩ := den2 hv'
          have hY : Y = .slice none 0 0 := by simpa [den] using d2.symm
          subst hY
          obtain ⟨base, dl, dc, rfl⟩ : ∃ base dl dc, X = .slice base dl dc := by
            cases s <;> simp [AV.isSlice] at hsl
            · obtain ⟨b, c', _, rfl⟩ := slice_den d1; exact ⟨_, _, _, rfl⟩
            · obtain ⟨b, c', _, rfl⟩ := vec_den d1; exact ⟨_, _, _, rfl⟩
            · exact ⟨none, 0, 0, by simpa [den] using d1.symm⟩
          refine ⟨.int .i64 0, w, E, .inl (execOp_builtin1 ho hc fun cb => ?_), rfl, {
            le := .refl _, only := fun _ _ => rfl
            wrote := fun _ i n o h1 h2 => hp.objs i n o h1 h2
            made := fun i n o h1 => by simp at h1
            keep := fun k hk hne => rfl
            newApart := fun i j n m o1 o2 b c b' c' h1 => by simp at h1
            grow := Nat.le_refl _
            os := rfl, tape := rfl, output := rfl }⟩
          have hrun : (Builtin.copy_ c.argTypes o.type #[.slice base dl dc, .slice none 0 0]).run P w = .ok (.int .i64 0) w := by
            simp only [Builtin.copy_, h0, List.getElem?_toArray, List.getElem?_cons_zero, List.getElem?_cons_succ, Sem.run_bind, run_underlying' hu0, Result.andThen_ok, Builtin.lenOf, Sem.run_pure, run_sizeOf' hi, Builtin.firstCells]
            have : Nat.min 0 dl = 0 := Nat.zero_min dl
            cases base <;> simp [storeCells, goInt, this]
          simp only [hX, builtin, Sem.run_bind, hrun, Result.andThen_ok, Sem.run_pure]
        · cases hr
      · cases hr
    · rename_i hc
      have hv' := args1 hc hv
      unfold unsafeStrA at hr
      split at hr
      · rename_i n pt it hat
        cases hr
        obtain ⟨k1, _⟩ := kk
        have k1 : n = 0 := k1
        subst k1
        have hX : c.args.map ρ = #[.pointer none, .int .i64 0] := by
          have : denL E [AV.nilptr, AV.int .i64 0] = some [.pointer none, .int .i64 0] := by simp [denL, den]
          rw [this] at hv'
          apply Array.ext'; simpa using (Option.some.inj hv').symm
        have hF : F = ⟨[], [], []⟩ := by simp only [foot, hc, Option.some.injEq] at hf; exact hf.symm
        have hA : c.argTypes = #[pt, it] := by apply Array.ext'; simpa using hat
        refine Good.pure (by rw [hF]; rfl) (by rw [hF]) (x := .string .empty) (execOp_builtinW ho hc fun cb => ?_) rfl
        simp only [hX, hA, builtin, Sem.run_bind, Lib.run_unsafeString_none w, Result.andThen_ok, Sem.run_pure]
      · rename_i nm n cs' t sz pt it hat
        split at hr
        · rename_i e0 hpt
          split at hr
          · rename_i hcond
            obtain ⟨rfl, hcond⟩ := hcond
            split at hr
            · rename_i s hval
              cases hr
              obtain ⟨k1, k2, k3, k4, _⟩ := kk
              have k1 : cs' = u8s s := k1
              have k2 : n = s.length := k2
              have k3 : s ≠ [] := k3
              have k4 : s.length < 9223372036854775808 := k4
              subst k1; subst k2
              have hF : F = ⟨[nm], [nm], []⟩ := by simp only [foot, hc, Option.some.injEq] at hf; exact hf.symm
              subst hF
              obtain ⟨X, Y, hX⟩ : ∃ X Y, c.args.map ρ = #[X, Y] := by
                have hl1 := denL_length hv'
                generalize c.args.map ρ = A at hl1
                obtain ⟨l⟩ := A
                match l, hl1 with
                | [X, Y], _ => exact ⟨X, Y, rfl⟩
              rw [hX] at hv'
              obtain ⟨d1, d2⟩ := den2 hv'
              obtain ⟨b, cap, hb, rfl⟩ := ptr_den d1
              have hY : Y = .int .i64 s.length := by simpa [den] using d2.symm
              subst hY
              obtain ⟨b', c'', hb', xs, ys, hxs, ⟨mk, hw, hmk⟩, hl, hoz⟩ := hp.objs 0 nm _ rfl rfl
              rw [hb] at hb'; cases hb'
              have hxe : xs = s.map fun b => Value.int .u8 b.toNat := by
                have := hxs.1; rw [denL_u8s] at this; exact (Option.some.inj this).symm
              have hA : c.argTypes = #[pt, it] := by apply Array.ext'; simpa using hat
              have run := Lib.run_unsafeString_row (P := P) w pt it o.type _ hpt hcond b (xs ++ ys).toArray.size (by simp [World.shape?, hw]) s k3 (by simp [hxe]) (by omega) (fun j x hx => by
                rw [Addr.add_none, cell_of_block hw, Nat.zero_add]
                have hlt := (List.getElem?_eq_some_iff.1 hx).1
                simp [hxe, List.getElem?_append_left, hlt] at hx ⊢
                rw [hx])
              have hu : Upd b w (w.freeze ⟨b, 0, none⟩ s.length) := by
                unfold World.freeze
                split
                · exact .refl b w
                · exact ⟨fun k hk => by simp only [Array.getElem?_modify]; rw [if_neg (by omega)], by simp, rfl, rfl, rfl⟩
              refine ⟨.string ⟨s.toArray⟩, _, E, .inl (execOp_builtinW ho hc fun cb => ?_), rfl, .write hb ⟨xs, ys, hxs, freeze_block hw, hl, hoz⟩ hu⟩
              simp only [hX, hA, builtin, Sem.run_bind, run, Result.andThen_ok, Sem.run_pure]
            · cases hr
          · cases hr
        · cases hr
      · rename_i nm n cs' t sz pt it hat
        split at hr
        · rename_i e0 hpt
          split at hr
          · rename_i hcond
            obtain ⟨rfl, hcond⟩ := hcond
            split at hr
            · rename_i s hval
              cases hr
              obtain ⟨k1, k2, k3, k4, _⟩ := kk
              have k1 : cs' = u8s s := k1
              have k2 : n = s.length := k2
              have k3 : s ≠ [] := k3
              have k4 : s.length < 9223372036854775808 := k4
              subst k1; subst k2
              have hF : F = ⟨[nm], [nm], []⟩ := by simp only [foot, hc, Option.some.injEq] at hf; exact hf.symm
              subst hF
              obtain ⟨X, Y, hX⟩ : ∃ X Y, c.args.map ρ = #[X, Y] := by
                have hl1 := denL_length hv'
                generalize c.args.map ρ = A at hl1
                obtain ⟨l⟩ := A
                match l, hl1 with
                | [X, Y], _ => exact ⟨X, Y, rfl⟩
              rw [hX] at hv'
              obtain ⟨d1, d2⟩ := den2 hv'
              obtain ⟨b, cap, hb, rfl⟩ := ptr_den d1
              have hY : Y = .int .i64 s.length := by simpa [den] using d2.symm
              subst hY
              obtain ⟨b', c'', hb', xs, ys, hxs, ⟨mk, hw⟩, hl, hoz⟩ := hp.objs 0 nm _ rfl rfl
              rw [hb] at hb'; cases hb'
              have hxe : xs = s.map fun b => Value.int .u8 b.toNat := by
                have := hxs.1; rw [denL_u8s] at this; exact (Option.some.inj this).symm
              have hA : c.argTypes = #[pt, it] := by apply Array.ext'; simpa using hat
              have run := Lib.run_unsafeString_row (P := P) w pt it o.type _ hpt hcond b (xs ++ ys).toArray.size (by simp [World.shape?, hw]) s k3 (by simp [hxe]) (by omega) (fun j x hx => by
                rw [Addr.add_none, cell_of_block hw, Nat.zero_add]
                have hlt := (List.getElem?_eq_some_iff.1 hx).1
                simp [hxe, List.getElem?_append_left, hlt] at hx ⊢
                rw [hx])
              have hu : Upd b w (w.freeze ⟨b, 0, none⟩ s.length) := by
                unfold World.freeze
                split
                · exact .refl b w
                · exact ⟨fun k hk => by simp only [Array.getElem?_modify]; rw [if_neg (by omega)], by simp, rfl, rfl, rfl⟩
              refine ⟨.string ⟨s.toArray⟩, _, E, .inl (execOp_builtinW ho hc fun cb => ?_), rfl, .write hb ⟨xs, ys, hxs, freeze_block hw, hl, hoz⟩ hu⟩
              simp only [hX, hA, builtin, Sem.run_bind, run, Result.andThen_ok, Sem.run_pure]
            · cases hr
          · cases hr
        · cases hr
      · cases hr
    · cases hr
  · cases hr

end Go.Proofs.YtanhlbdcjonaoaaDoor.Sx

/- The symbolic executor, part M: contracts of functions, and one step of a region on a state. -/
set_option linter.unusedSimpArgs false
set_option linter.unusedVariables false
namespace Go.Proofs.YtanhlbdcjonaoaaDoor.Sx
open Go

variable {P : Program} {E : Env} {w : World}

mutual
def AV.ren (r : List Nat) : AV → AV
  | .ptr nm off => match r[nm]? with | some m => .ptr m off | none => .bad
  | .slice nm off l c => match r[nm]? with | some m => .slice m off l c | none => .bad
  | .vec nm l => match r[nm]? with | some m => .vec m l | none => .bad
  | .dsl nm l => match r[nm]? with | some m => .dsl m l | none => .bad
  | .dptr nm l => match r[nm]? with | some m => .dptr m l | none => .bad
  | .agg cs => .agg (renL r cs)
  | .tuple cs => .tuple (renL r cs)
  | .func f as cs => .func f (renL r as) (renL r cs)
  | .iface t v => .iface t (v.ren r)
  | .bool b => .bool b
  | .int k n => .int k n
  | .str s => .str s
  | .nilptr => .nilptr
  | .nilslice => .nilslice
  | .gptr g off => .gptr g off
  | .nilfunc => .nilfunc
  | .niliface => .niliface
  | .bad => .bad
def renL (r : List Nat) : List AV → List AV
  | [] => []
  | v :: vs => v.ren r :: renL r vs
end

def AObj.ren (r : List Nat) : AObj → AObj
  | .cells cs t => .cells (renL r cs) t
  | .vec cs t sz => .vec (renL r cs) t sz
  | .ro off cs => .ro off (renL r cs)
  | .flat m cs => .flat m (renL r cs)
  | .iter s p => .iter s p
  | .shut cs t sz => .shut (renL r cs) t sz
  | .dead => .dead

mutual
theorem ren_den {r : List Nat} {A B : Env} (h : ∀ i m p, r[i]? = some m → A m = some p → B i = some p) : ∀ (v : AV) (x : Value), den A (v.ren r) = some x → den B v = some x
  | .ptr nm off, x, e => by
    simp only [AV.ren] at e
    split at e
    · rename_i m hm; obtain ⟨b, c, hb, rfl⟩ := ptr_den e; simp [den, h _ _ _ hm hb]
    · simp [den] at e
  | .slice nm off l c, x, e => by
    simp only [AV.ren] at e
    split at e
    · rename_i m hm; obtain ⟨b, c, hb, rfl⟩ := slice_den e; simp [den, h _ _ _ hm hb]
    · simp [den] at e
  | .vec nm l, x, e => by
    simp only [AV.ren] at e
    split at e
    · rename_i m hm
      have e' := e
      obtain ⟨b, c, hb, _⟩ := vec_den e
      simp only [den, h _ _ _ hm hb, hb] at e' ⊢; exact e'
    · simp [den] at e
  | .dsl nm l, x, e => by
    simp only [AV.ren] at e
    split at e
    · rename_i m hm
      have e' := e
      obtain ⟨b, c, hb, _⟩ := dsl_den e
      simp only [den, h _ _ _ hm hb, hb] at e' ⊢; exact e'
    · simp [den] at e
  | .dptr nm l, x, e => by
    simp only [AV.ren] at e
    split at e
    · rename_i m hm
      have e' := e
      obtain ⟨b, c, hb, _⟩ := dptr_den e
      simp only [den, h _ _ _ hm hb, hb] at e' ⊢; exact e'
    · simp [den] at e
  | .agg cs, x, e => by
    simp only [AV.ren] at e
    obtain ⟨xs, hx, rfl⟩ := denC_agg.1 e
    exact denC_agg.2 ⟨xs, ⟨renL_den h cs xs hx.1, hx.2⟩, rfl⟩
  | .tuple cs, x, e => by
    simp only [AV.ren, den, Option.map_eq_some_iff] at e ⊢
    obtain ⟨xs, hx, rfl⟩ := e; exact ⟨xs, renL_den h cs xs hx, rfl⟩
  | .func f as cs, x, e => by
    simp only [AV.ren, den] at e ⊢
    split at e
    · rename_i ys zs hy hz; rw [renL_den h as ys hy, renL_den h cs zs hz]; exact e
    · cases e
  | .iface t v, x, e => by
    simp only [AV.ren, den, Option.map_eq_some_iff] at e ⊢
    obtain ⟨y, hy, rfl⟩ := e; exact ⟨y, ren_den h v y hy, rfl⟩
  | .bool b, x, e => e
  | .int k n, x, e => e
  | .str s, x, e => e
  | .nilptr, x, e => e
  | .nilslice, x, e => e
  | .gptr g off, x, e => e
  | .nilfunc, x, e => e
  | .niliface, x, e => e
  | .bad, x, e => e
theorem renL_den {r : List Nat} {A B : Env} (h : ∀ i m p, r[i]? = some m → A m = some p → B i = some p) : ∀ (vs : List AV) (xs : List Value), denL A (renL r vs) = some xs → denL B vs = some xs
  | [], xs, e => e
  | v :: vs, xs, e => by
    simp only [renL] at e
    obtain ⟨x, ys, hx, hy, rfl⟩ := denL_cons.1 e
    exact denL_cons.2 ⟨x, ys, ren_den h v x hx, renL_den h vs ys hy, rfl⟩
end

mutual
theorem den_ren {r : List Nat} {A B : Env} (h : ∀ i p, B i = some p → ∃ m, r[i]? = some m ∧ A m = some p) : ∀ (v : AV) (x : Value), den B v = some x → den A (v.ren r) = some x
  | .ptr nm off, x, e => by
    obtain ⟨b, c, hb, rfl⟩ := ptr_den e
    obtain ⟨m, hm, ha⟩ := h _ _ hb
    simp [AV.ren, hm, den, ha]
  | .slice nm off l c, x, e => by
    obtain ⟨b, c, hb, rfl⟩ := slice_den e
    obtain ⟨m, hm, ha⟩ := h _ _ hb
    simp [AV.ren, hm, den, ha]
  | .vec nm l, x, e => by
    have e' := e
    obtain ⟨b, c, hb, _⟩ := vec_den e
    obtain ⟨m, hm, ha⟩ := h _ _ hb
    simp only [AV.ren, hm, den, ha, hb] at e' ⊢; exact e'
  | .dsl nm l, x, e => by
    have e' := e
    obtain ⟨b, c, hb, _⟩ := dsl_den e
    obtain ⟨m, hm, ha⟩ := h _ _ hb
    simp only [AV.ren, hm, den, ha, hb] at e' ⊢; exact e'
  | .dptr nm l, x, e => by
    have e' := e
    obtain ⟨b, c, hb, _⟩ := dptr_den e
    obtain ⟨m, hm, ha⟩ := h _ _ hb
    simp only [AV.ren, hm, den, ha, hb] at e' ⊢; exact e'
  | .agg cs, x, e => by
    obtain ⟨xs, hx, rfl⟩ := denC_agg.1 e
    simp only [AV.ren]
    exact denC_agg.2 ⟨xs, ⟨denL_ren h cs xs hx.1, hx.2⟩, rfl⟩
  | .tuple cs, x, e => by
    simp only [AV.ren, den, Option.map_eq_some_iff] at e ⊢
    obtain ⟨xs, hx, rfl⟩ := e; exact ⟨xs, denL_ren h cs xs hx, rfl⟩
  | .func f as cs, x, e => by
    simp only [AV.ren, den] at e ⊢
    split at e
    · rename_i ys zs hy hz; rw [denL_ren h as ys hy, denL_ren h cs zs hz]; exact e
    · cases e
  | .iface t v, x, e => by
    simp only [AV.ren, den, Option.map_eq_some_iff] at e ⊢
    obtain ⟨y, hy, rfl⟩ := e; exact ⟨y, den_ren h v y hy, rfl⟩
  | .bool b, x, e => e
  | .int k n, x, e => e
  | .str s, x, e => e
  | .nilptr, x, e => e
  | .nilslice, x, e => e
  | .gptr g off, x, e => e
  | .nilfunc, x, e => e
  | .niliface, x, e => e
  | .bad, x, e => e
theorem denL_ren {r : List Nat} {A B : Env} (h : ∀ i p, B i = some p → ∃ m, r[i]? = some m ∧ A m = some p) : ∀ (vs : List AV) (xs : List Value), denL B vs = some xs → denL A (renL r vs) = some xs
  | [], xs, e => e
  | v :: vs, xs, e => by
    obtain ⟨x, ys, hx, hy, rfl⟩ := denL_cons.1 e
    simp only [renL]
    exact denL_cons.2 ⟨x, ys, den_ren h v x hx, denL_ren h vs ys hy, rfl⟩
end

theorem ObjR.unren {r : List Nat} {A B : Env} (h : ∀ i m p, r[i]? = some m → A m = some p → B i = some p) {b : Nat} {c : Cap} {o : AObj} (k : ObjR A w b c (o.ren r)) : ObjR B w b c o := by
  cases o with
  | cells cs t => obtain ⟨xs, hx, hw⟩ := k; exact ⟨xs, ⟨renL_den h _ _ hx.1, hx.2⟩, hw⟩
  | vec cs t sz => obtain ⟨xs, ys, hx, hw⟩ := k; exact ⟨xs, ys, ⟨renL_den h _ _ hx.1, hx.2⟩, hw⟩
  | ro off cs => obtain ⟨xs, hx, hw⟩ := k; exact ⟨xs, ⟨renL_den h _ _ hx.1, hx.2⟩, hw⟩
  | flat m cs =>
    obtain ⟨xs, hx, hz, hw⟩ := k
    exact ⟨xs, ⟨renL_den h _ _ hx.1, hx.2⟩, fun e => by have := hz e; cases cs with | nil => rfl | cons a l => simp [renL] at this, hw⟩
  | iter s p => exact k
  | shut cs t sz => obtain ⟨xs, ys, hx, hw⟩ := k; exact ⟨xs, ys, ⟨renL_den h _ _ hx.1, hx.2⟩, hw⟩
  | dead => trivial

theorem ObjR.ren {r : List Nat} {A B : Env} (h : ∀ i p, B i = some p → ∃ m, r[i]? = some m ∧ A m = some p) {b : Nat} {c : Cap} {o : AObj} (k : ObjR B w b c o) : ObjR A w b c (o.ren r) := by
  cases o with
  | cells cs t => obtain ⟨xs, hx, hw⟩ := k; exact ⟨xs, ⟨denL_ren h _ _ hx.1, hx.2⟩, hw⟩
  | vec cs t sz => obtain ⟨xs, ys, hx, hw⟩ := k; exact ⟨xs, ys, ⟨denL_ren h _ _ hx.1, hx.2⟩, hw⟩
  | ro off cs => obtain ⟨xs, hx, hw⟩ := k; exact ⟨xs, ⟨denL_ren h _ _ hx.1, hx.2⟩, hw⟩
  | flat m cs => obtain ⟨xs, hx, hz, hw⟩ := k; exact ⟨xs, ⟨denL_ren h _ _ hx.1, hx.2⟩, fun e => by rw [hz e]; rfl, hw⟩
  | iter s p => exact k
  | shut cs t sz => obtain ⟨xs, ys, hx, hw⟩ := k; exact ⟨xs, ys, ⟨denL_ren h _ _ hx.1, hx.2⟩, hw⟩
  | dead => trivial

theorem AObj.ren_owned (r : List Nat) (o : AObj) : (o.ren r).owned = o.owned := by cases o <;> rfl
theorem touches_ren {b k : Nat} {c : Cap} {r : List Nat} {o : AObj} (h : touches b c (o.ren r) k) : touches b c o k := by cases o <;> exact h
theorem touches_ren' {b k : Nat} {c : Cap} {r : List Nat} {o : AObj} (h : touches b c o k) : touches b c (o.ren r) k := by cases o <;> exact h
theorem AObj.ren_mine (r : List Nat) (o : AObj) : (o.ren r).mine = o.mine := by cases o <;> rfl
theorem AObj.ren_live (r : List Nat) (o : AObj) : (o.ren r).live = o.live := by cases o <;> rfl

/-- What is known of a block as 'a' may be told as 'b'. -/
def Fits (a b : AObj) : Prop := ∀ (E : Env) (w : World) (k : Nat) (c : Cap), ObjR E w k c a → ObjR E w k c b
theorem Fits.refl (a : AObj) : Fits a a := fun _ _ _ _ h => h
theorem Fits.of_eq {a b : AObj} (h : a = b) : Fits a b := h ▸ Fits.refl a

/-- Cells of a block, read alone. -/
theorem Fits.ro {a : AObj} {o0 off : Nat} {cs us : List AV} (hk : a.known = some (o0, cs)) (hl : a.live = true) (h0 : o0 ≤ off) (hu : (cs.drop (off - o0)).take us.length = us) : Fits a (.ro off us) := by
  intro E w k c h
  obtain ⟨xs, hx, hw⟩ := h.window hk
  refine ⟨(xs.drop (off - o0)).take us.length, ?_, window_slice hw h0, h.lt hl (by cases a <;> first | rfl | (simp [AObj.known] at hk))⟩
  have := denC_take (denC_drop hx (off - o0)) us.length
  rwa [hu] at this

structure PreR (E : Env) (w : World) (pre : List AObj) : Prop where
  objs : ∀ (n : Nat) (o : AObj), pre[n]? = some o → ∃ b c, E n = some (b, c) ∧ ObjR E w b c o
  fresh : ∀ n, pre.length ≤ n → E n = none
  apart : ∀ (n m : Nat) (o o' : AObj) (b : Nat) (c : Cap) (b' : Nat) (c' : Cap), pre[n]? = some o → pre[m]? = some o' → o.owned = true → o'.live = true → E n = some (b, c) → E m = some (b', c') → n ≠ m → ¬ touches b' c' o' b
  glob : GlobOK w (fun k => ∃ (n : Nat) (o : AObj) (c : Cap), pre[n]? = some o ∧ o.owned = true ∧ E n = some (k, c))

structure PostR (E E' : Env) (w w' : World) (pre post : List AObj) : Prop where
  le : Env.le E E'
  cut : ∀ n, post.length ≤ n → E' n = none
  objs : ∀ (n : Nat) (o : AObj), post[n]? = some o → ∃ b c, E' n = some (b, c) ∧ ObjR E' w' b c o
  made : ∀ (n b : Nat) (c : Cap) (o : AObj), pre.length ≤ n → post[n]? = some o → E' n = some (b, c) → touches b c o b → w.heap.size ≤ b ∨ ∃ (j : Nat) (c' : Cap) (o : AObj), pre[j]? = some o ∧ o.owned = true ∧ post[j]? = some AObj.dead ∧ E j = some (b, c')
  keep : ∀ k : Nat, k < w.heap.size → (∀ (n : Nat) (o : AObj) (c : Cap), pre[n]? = some o → o.owned = true → E n ≠ some (k, c)) → w'.heap[k]? = w.heap[k]?
  newApart : ∀ (n m : Nat) (o o' : AObj) (b : Nat) (c : Cap) (b' : Nat) (c' : Cap), pre.length ≤ n → pre.length ≤ m → post[n]? = some o → post[m]? = some o' → o.owned = true → o'.live = true → E' n = some (b, c) → E' m = some (b', c') → n ≠ m → ¬ touches b' c' o' b
  grow : w.heap.size ≤ w'.heap.size
  os : w'.os = w.os
  tape : w'.tape = w.tape
  output : w'.output = w.output

/-- A call of function f, entered, or answered at once (a function without a body of Go). -/
def Does (P : Program) (f : FuncId) (args : Array Value) (w : World) (R : Ending → World → Prop) : Prop :=
  (∃ g as, (callFunc f args).run P w = .ok (.enter g as) w ∧ Calls P g as w R) ∨ (∃ v w', (callFunc f args).run P w = .ok (.value v) w' ∧ R (.returned v) w')

theorem Does.mono {f : FuncId} {args : Array Value} {R R' : Ending → World → Prop} (h : Does P f args w R) (hr : ∀ e w', R e w' → R' e w') : Does P f args w R' := by
  rcases h with ⟨g, as, h1, h2⟩ | ⟨v, w', h1, h2⟩
  · exact .inl ⟨g, as, h1, h2.mono hr⟩
  · exact .inr ⟨v, w', h1, hr _ _ h2⟩

/-- THE CONTRACT of function f: called with these values, in a world whose blocks are as 'pre' says, it returns 'res', and the blocks are as 'post' says (which has new ones behind those of 'pre'). -/
def Meets (P : Program) (f : FuncId) (args : List AV) (pre : List AObj) (res : AV) (post : List AObj) : Prop :=
  ∀ (w : World) (E : Env) (xs : List Value), denL E args = some xs → PreR E w pre →
    Does P f xs.toArray w fun e w' => ∃ E' x, e = .returned x ∧ den E' res = some x ∧ PostR E E' w w' pre post

/-- What a call leaves of the blocks that it was handed. -/
def updOf (r : List Nat) : List AObj → List AObj → List AObj → List AObj
  | c :: cs, p :: pre, q :: post => (if p.owned then q.ren r else c) :: updOf r cs pre post
  | _, _, _ => []

def fitsOf (r : List Nat) : List AObj → List AObj → List Prop
  | c :: cs, p :: pre => Fits c (p.ren r) :: fitsOf r cs pre
  | _, _ => []

def callA (h : Hint) (P : Program) (o : Op) (vals : List AV) (cs : List AObj) : Option Res :=
  match o, vals, h.call with
  | .call c, .func f first caps :: args, some k =>
    match c.callee with
    | .value _ =>
      if k.ren.length == k.post.length && k.pre.length ≤ k.post.length && cs.length == k.pre.length && (k.pre.zip cs).all (fun p => (!p.1.owned || p.2.owned) && (!p.2.isFlat || p.1.isFlat)) && cs.all (·.live) then
        let obl := (first ++ args ++ caps = renL k.ren k.args) :: Meets P f k.args k.pre k.res k.post :: fitsOf k.ren cs k.pre
        let upd := updOf k.ren cs k.pre k.post
        let new := (k.post.drop k.pre.length).map (·.ren k.ren)
        match h.val, h.obj with
        | some v, some os => some ⟨obl ++ [k.res.ren k.ren = v, upd ++ new = os], v, os.take upd.length, os.drop upd.length⟩
        | some v, none => some ⟨obl ++ [k.res.ren k.ren = v], v, upd, new⟩
        | none, some os => some ⟨obl ++ [upd ++ new = os], k.res.ren k.ren, os.take upd.length, os.drop upd.length⟩
        | none, none => some ⟨obl, k.res.ren k.ren, upd, new⟩
      else none
    | _ => none
  | _, _, _ => none

theorem callA_cases {h : Hint} {o : Op} {vals : List AV} {cs : List AObj} {r : Res} (e : callA h P o vals cs = some r) (k : AllP r.obl) :
    ∃ c f first caps args k, o = .call c ∧ vals = .func f first caps :: args ∧ h.call = some k ∧ (∃ x, c.callee = .value x) ∧ k.ren.length = k.post.length ∧ k.pre.length ≤ k.post.length ∧ cs.length = k.pre.length ∧
      ((k.pre.zip cs).all (fun p => (!p.1.owned || p.2.owned) && (!p.2.isFlat || p.1.isFlat))) = true ∧ (cs.all (·.live)) = true ∧ first ++ args ++ caps = renL k.ren k.args ∧ Meets P f k.args k.pre k.res k.post ∧ AllP (fitsOf k.ren cs k.pre) ∧ r.val = k.res.ren k.ren ∧ r.upd = updOf k.ren cs k.pre k.post ∧ r.new = (k.post.drop k.pre.length).map (·.ren k.ren) := by
  unfold callA at e
  split at e
  · rename_i c f first caps args kk hk
    split at e
    · rename_i x hx
      split at e
      · rename_i hc
        simp only [Bool.and_eq_true, beq_iff_eq, decide_eq_true_eq] at hc
        obtain ⟨⟨⟨⟨c1, c2⟩, c3⟩, c4⟩, c5⟩ := hc
        simp only at e
        have fin : ∀ {a b : List AObj}, (a ++ b).take a.length = a ∧ (a ++ b).drop a.length = b := fun {a b} => ⟨List.take_left, List.drop_left⟩
        split at e
        · rename_i v os hv hos
          cases e
          obtain ⟨k1, k2⟩ := allP_append.1 k
          obtain ⟨k1, k3, k4⟩ := k1
          obtain ⟨k5, k6, _⟩ := k2
          have k5 : kk.res.ren kk.ren = v := k5
          have k6 : updOf kk.ren cs kk.pre kk.post ++ List.map (fun x => x.ren kk.ren) (kk.post.drop kk.pre.length) = os := k6
          exact ⟨c, f, first, caps, args, kk, rfl, rfl, hk, ⟨x, hx⟩, c1, c2, c3, c4, c5, k1, k3, k4, k5.symm, by rw [← k6]; exact fin.1, by rw [← k6]; exact fin.2⟩
        · rename_i v hv hos
          cases e
          obtain ⟨k1, k2⟩ := allP_append.1 k
          obtain ⟨k1, k3, k4⟩ := k1
          obtain ⟨k5, _⟩ := k2
          have k5 : kk.res.ren kk.ren = v := k5
          exact ⟨c, f, first, caps, args, kk, rfl, rfl, hk, ⟨x, hx⟩, c1, c2, c3, c4, c5, k1, k3, k4, k5.symm, rfl, rfl⟩
        · rename_i os hv hos
          cases e
          obtain ⟨k1, k2⟩ := allP_append.1 k
          obtain ⟨k1, k3, k4⟩ := k1
          obtain ⟨k6, _⟩ := k2
          have k6 : updOf kk.ren cs kk.pre kk.post ++ List.map (fun x => x.ren kk.ren) (kk.post.drop kk.pre.length) = os := k6
          exact ⟨c, f, first, caps, args, kk, rfl, rfl, hk, ⟨x, hx⟩, c1, c2, c3, c4, c5, k1, k3, k4, rfl, by rw [← k6]; exact fin.1, by rw [← k6]; exact fin.2⟩
        · cases e
          obtain ⟨k1, k3, k4⟩ := k
          exact ⟨c, f, first, caps, args, kk, rfl, rfl, hk, ⟨x, hx⟩, c1, c2, c3, c4, c5, k1, k3, k4, rfl, rfl, rfl⟩
      · cases e
    · cases e
  · cases e

end Go.Proofs.YtanhlbdcjonaoaaDoor.Sx

/- The symbolic executor, part N: a call by its contract is sound. -/
set_option linter.unusedSimpArgs false
set_option linter.unusedVariables false
namespace Go.Proofs.YtanhlbdcjonaoaaDoor.Sx
open Go

variable {P : Program} {E : Env} {w : World}

theorem updOf_get {r : List Nat} : ∀ (cs pre post : List AObj) (i : Nat) (o : AObj), (updOf r cs pre post)[i]? = some o →
    ∃ c p q, cs[i]? = some c ∧ pre[i]? = some p ∧ post[i]? = some q ∧ o = if p.owned then q.ren r else c
  | [], _, _, i, o, h => by simp [updOf] at h
  | _ :: _, [], _, i, o, h => by simp [updOf] at h
  | _ :: _, _ :: _, [], i, o, h => by simp [updOf] at h
  | c :: cs, p :: pre, q :: post, 0, o, h => by
    simp [updOf] at h; exact ⟨c, p, q, rfl, rfl, rfl, h.symm⟩
  | c :: cs, p :: pre, q :: post, i + 1, o, h => by
    simp only [updOf, List.getElem?_cons_succ] at h
    simpa using updOf_get cs pre post i o h

theorem updOf_at {r : List Nat} : ∀ (cs pre post : List AObj) (i : Nat) (c p q : AObj), cs[i]? = some c → pre[i]? = some p → post[i]? = some q → (updOf r cs pre post)[i]? = some (if p.owned then q.ren r else c)
  | [], _, _, i, _, _, _, h, _, _ => by simp at h
  | _ :: _, [], _, i, _, _, _, _, h, _ => by simp at h
  | _ :: _, _ :: _, [], i, _, _, _, _, _, h => by simp at h
  | c :: cs, p :: pre, q :: post, 0, _, _, _, h1, h2, h3 => by
    simp at h1 h2 h3; subst h1; subst h2; subst h3; simp [updOf]
  | c :: cs, p :: pre, q :: post, i + 1, a, b, d, h1, h2, h3 => by
    simp only [updOf, List.getElem?_cons_succ]
    exact updOf_at cs pre post i a b d (by simpa using h1) (by simpa using h2) (by simpa using h3)

theorem fitsOf_get {r : List Nat} : ∀ (cs pre : List AObj) (i : Nat) (c p : AObj), AllP (fitsOf r cs pre) → cs[i]? = some c → pre[i]? = some p → Fits c (p.ren r)
  | [], _, i, c, p, _, h, _ => by simp at h
  | _ :: _, [], i, c, p, _, _, h => by simp at h
  | c :: cs, p :: pre, 0, _, _, h, h1, h2 => by
    simp at h1 h2; subst h1; subst h2; exact h.1
  | c :: cs, p :: pre, i + 1, a, b, h, h1, h2 => fitsOf_get cs pre i a b h.2 (by simpa using h1) (by simpa using h2)

theorem all_zip {a b : List AObj} {f : AObj → AObj → Bool} (h : ((a.zip b).all fun p => f p.1 p.2) = true) {i : Nat} {x y : AObj} (h1 : a[i]? = some x) (h2 : b[i]? = some y) : f x y = true := by
  have : (a.zip b)[i]? = some (x, y) := by simp [List.getElem?_zip_eq_some, h1, h2]
  exact List.all_eq_true.1 h _ (List.mem_of_getElem? this)

theorem mem_ws {ren : List Nat} {pre : List AObj} {n : Nat} : n ∈ ((ren.zip pre).filter fun p => p.2.owned).map (·.1) ↔ ∃ (i : Nat) (o : AObj), ren[i]? = some n ∧ pre[i]? = some o ∧ o.owned = true := by
  simp only [List.mem_map, List.mem_filter]
  constructor
  · rintro ⟨⟨m, o⟩, ⟨hm, ho⟩, rfl⟩
    obtain ⟨i, hi⟩ := List.getElem?_of_mem hm
    rw [List.getElem?_zip_eq_some] at hi
    exact ⟨i, o, hi.1, hi.2, ho⟩
  · rintro ⟨i, o, h1, h2, h3⟩
    exact ⟨(n, o), ⟨List.mem_of_getElem? (i := i) (by rw [List.getElem?_zip_eq_some]; exact ⟨h1, h2⟩), h3⟩, rfl⟩

theorem resolve_value {ρ : Operand → Value} {c : Call} {x : Operand} {ty : TypeId} {f : FuncId} {a b : Array Value} (hc : c.callee = .value x) (hx : ρ x = .func (.func f) a b) :
    (do let d ← resolve ρ c ty; invoke d.target d.args : Sem Next).run P w = (callFunc f (a ++ c.args.map ρ ++ b)).run P w := by
  simp only [resolve, hc, Deferred.ofValue, hx, Sem.run_bind, Sem.run_pure, Result.andThen_ok, invoke]

theorem call_sound {o : Oper} {ρ : Operand → Value} {h : Hint} {vals : List AV} {F : Foot} {cs : List AObj} {r : Res} (hv : denL E vals = some (o.op.operands.toList.map ρ)) (hf : foot h o.op vals = some F) (hp : Pre E w F cs)
    (hr : callA h P o.op vals cs = some r) (kk : AllP r.obl) :
    ∃ f args, (execOp ρ o).run P w = (callFunc f args).run P w ∧ Does P f args w fun e w' => ∃ E' x, e = .returned x ∧ den E' r.val = some x ∧ Eff E E' w w' F r.upd r.new := by
  obtain ⟨c, f, first, caps, args, k, ho, hvals, hk, ⟨x, hx⟩, c1, c2, c3, c4, c5, k1, kmeet, k3, e1, e2, e3⟩ := callA_cases hr kk
  have hF : F = ⟨k.ren.take k.pre.length, ((k.ren.zip k.pre).filter fun p => p.2.owned).map (·.1), k.ren.drop k.pre.length⟩ := by
    rw [ho, hvals] at hf; simp only [foot, hx, hk, Option.some.injEq] at hf; exact hf.symm
  rw [ho, hvals] at hv
  simp only [Op.operands, Call.operands, hx] at hv
  have hv' : denL E (.func f first caps :: args) = some (ρ x :: c.args.toList.map ρ) := by simpa using hv
  obtain ⟨d1, d2⟩ := denL_split hv'
  simp only [den] at d1
  split at d1
  · rename_i as bs ha hb
    have hρx : ρ x = .func (.func f) as.toArray bs.toArray := (Option.some.inj d1).symm
    refine ⟨f, as.toArray ++ c.args.map ρ ++ bs.toArray, ?_, ?_⟩
    · have := resolve_value (P := P) (w := w) (ty := o.type) hx hρx
      simp only [execOp, ho]
      exact this
    · have hargs : denL E (renL k.ren k.args) = some (as ++ c.args.toList.map ρ ++ bs) := by
        rw [← k1]; exact denL_append (denL_append ha d2) hb
      let Ec : Env := fun i => if i < k.pre.length then (k.ren[i]?).bind E else none
      have hfreshal : ∀ i m, k.pre.length ≤ i → k.ren[i]? = some m → E m = none := fun i m hi hm =>
        hp.fresh m (by rw [hF]; exact List.mem_of_getElem? (i := i - k.pre.length) (by rw [List.getElem?_drop]; rwa [show k.pre.length + (i - k.pre.length) = i by omega]))
      have hEc : ∀ i m p, k.ren[i]? = some m → E m = some p → Ec i = some p := fun i m p hi hm => by
        by_cases hlt : i < k.pre.length
        · simp only [Ec, if_pos hlt, hi, Option.bind_some, hm]
        · rw [hfreshal i m (by omega) hi] at hm; cases hm
      have hEc' : ∀ i p, Ec i = some p → ∃ m, i < k.pre.length ∧ k.ren[i]? = some m ∧ E m = some p := fun i p hi => by
        simp only [Ec] at hi
        split at hi
        · rename_i hlt
          obtain ⟨m, hm, hE⟩ := Option.bind_eq_some_iff.1 hi
          exact ⟨m, hlt, hm, hE⟩
        · cases hi
      have hrd : ∀ i m, i < k.pre.length → k.ren[i]? = some m → F.rd[i]? = some m := fun i m hi hm => by
        rw [hF]; simp only [List.getElem?_take, if_pos hi, hm]
      have hcs : ∀ i (p : AObj), k.pre[i]? = some p → ∃ m q, k.ren[i]? = some m ∧ cs[i]? = some q ∧ i < k.pre.length := fun i p hi => by
        have hlt := (List.getElem?_eq_some_iff.1 hi).1
        exact ⟨k.ren[i]'(by omega), cs[i]'(by omega), List.getElem?_eq_getElem _, List.getElem?_eq_getElem _, hlt⟩
      have hwr : ∀ i (p : AObj), k.pre[i]? = some p → p.owned = true → F.wr = true := fun i p hi ho' => by
        obtain ⟨m, q, hm, _, _⟩ := hcs i p hi
        have : m ∈ F.ws := by rw [hF]; exact mem_ws.2 ⟨i, p, hm, hi, ho'⟩
        unfold Foot.wr
        cases hws : F.ws with
        | nil => rw [hws] at this; cases this
        | cons a l => rfl
      have hne : ∀ i j m m' (p : AObj), k.pre[i]? = some p → p.owned = true → i ≠ j → j < k.pre.length → k.ren[i]? = some m → k.ren[j]? = some m' → m ≠ m' := fun i j m m' p hi ho' hij hj hm hm' => by
        have hnd := hp.rdNodup (hwr i p hi ho')
        have hli := (List.getElem?_eq_some_iff.1 hi).1
        rintro rfl
        exact hij ((List.getElem?_inj (List.getElem?_eq_some_iff.1 (hrd i m hli hm)).1 hnd).1 (by rw [hrd i m hli hm, hrd j m hj hm']))
      have hpre : PreR Ec w k.pre :=
        { objs := fun n o' hn => by
            obtain ⟨m, q, hm, hq, hlt⟩ := hcs n o' hn
            obtain ⟨b, cc, hb, hob⟩ := hp.objs n m q (hrd n m hlt hm) hq
            exact ⟨b, cc, hEc n m _ hm hb, (fitsOf_get cs k.pre n q o' k3 hq hn E w b cc hob).unren hEc⟩
          fresh := fun n hn => by simp only [Ec]; rw [if_neg (by omega)]
          apart := fun n m o1 o2 b cc b' c' h1 h2 h3 h4 h5 h6 h7 => by
            obtain ⟨x1, q1, hx1, hq1, hl1⟩ := hcs n o1 h1
            obtain ⟨x2, q2, hx2, hq2, hl2⟩ := hcs m o2 h2
            obtain ⟨y1, _, hy1, hE1⟩ := hEc' n _ h5
            obtain ⟨y2, _, hy2, hE2⟩ := hEc' m _ h6
            rw [hx1] at hy1; cases hy1
            rw [hx2] at hy2; cases hy2
            have hown : q1.owned = true := by
              have := all_zip (f := fun a b => (!a.owned || b.owned) && (!b.isFlat || a.isFlat)) c4 h1 hq1
              simp only [h3, Bool.and_eq_true] at this; simpa using this.1
            have hlive : q2.live = true := List.all_eq_true.1 c5 q2 (List.mem_of_getElem? hq2)
            have hflat : q2.isFlat = true → o2.isFlat = true := fun e => by
              have := all_zip (f := fun a b => (!a.owned || b.owned) && (!b.isFlat || a.isFlat)) c4 h2 hq2
              simp only [e, Bool.and_eq_true] at this; simpa using this.2
            exact fun ht => hp.apart n m x1 x2 q1 q2 b cc b' c' (hrd n x1 hl1 hx1) (hrd m x2 hl2 hx2) hq1 hq2 hown hlive hE1 hE2 (hne n m x1 x2 o1 h1 h3 h7 hl2 hx1 hx2) (touches_fit hflat ht)
          glob := fun g hg => by
            obtain ⟨g1, g2, g3⟩ := hp.glob g hg
            refine ⟨g1, ?_, g3⟩
            rintro ⟨n, o1, cc, h1, h3, h5⟩
            obtain ⟨x1, q1, hx1, hq1, hl1⟩ := hcs n o1 h1
            obtain ⟨y1, _, hy1, hE1⟩ := hEc' n _ h5
            rw [hx1] at hy1; cases hy1
            have hown : q1.owned = true := by
              have := all_zip (f := fun a b => (!a.owned || b.owned) && (!b.isFlat || a.isFlat)) c4 h1 hq1
              simp only [h3, Bool.and_eq_true] at this; simpa using this.1
            exact g2 ⟨n, x1, q1, cc, hrd n x1 hl1 hx1, hq1, hown, hE1⟩ }
      have hcall := kmeet w Ec (as ++ c.args.toList.map ρ ++ bs) (renL_den hEc _ _ hargs) hpre
      have earr : (as ++ c.args.toList.map ρ ++ bs).toArray = as.toArray ++ c.args.map ρ ++ bs.toArray := by
        apply Array.ext'; simp
      rw [earr] at hcall
      refine hcall.mono ?_
      rintro e w' ⟨E'c, y, rfl, hy, hpost⟩
      let al := k.ren.drop k.pre.length
      have hal : F.al = al := by rw [hF]
      have hnd : al.Nodup := hal ▸ hp.nodup
      let E' : Env := fun m => if m ∈ al then E'c (k.pre.length + al.idxOf m) else E m
      have hE'al : ∀ j m, al[j]? = some m → E' m = E'c (k.pre.length + j) := fun j m hj => by
        have hmem := List.mem_of_getElem? hj
        simp only [E', if_pos hmem]
        obtain ⟨hlt, rfl⟩ := List.getElem?_eq_some_iff.1 hj
        rw [hnd.idxOf_getElem]
      have hE'old : ∀ m, m ∉ al → E' m = E m := fun m hm => by simp only [E', if_neg hm]
      have hle : Env.le E E' := fun n p hn => by
        rw [hE'old n]; exact hn
        intro hmem
        rw [hp.fresh n (hal ▸ hmem)] at hn; cases hn
      have hren : ∀ i p, E'c i = some p → ∃ m, k.ren[i]? = some m ∧ E' m = some p := fun i p hi => by
        have hlt : i < k.post.length := by
          rcases Nat.lt_or_ge i k.post.length with h | h
          · exact h
          · rw [hpost.cut i h] at hi; cases hi
        have hm : k.ren[i]? = some (k.ren[i]'(by omega)) := List.getElem?_eq_getElem _
        refine ⟨_, hm, ?_⟩
        by_cases hpl : i < k.pre.length
        · obtain ⟨b, cc, hb, _⟩ := hpre.objs i (k.pre[i]) (List.getElem?_eq_getElem hpl)
          have := hpost.le i _ hb
          rw [hi] at this; cases this
          obtain ⟨m', _, hm', hEm⟩ := hEc' i _ hb
          rw [hm] at hm'; cases hm'
          exact hle _ _ hEm
        · have := hE'al (i - k.pre.length) (k.ren[i]'(by omega)) (by simp only [al, List.getElem?_drop]; rw [show k.pre.length + (i - k.pre.length) = i by omega]; exact hm)
          rw [this, show k.pre.length + (i - k.pre.length) = i by omega]; exact hi
      refine ⟨E', y, rfl, by rw [e1]; exact den_ren hren _ _ hy, ?_⟩
      exact {
        le := hle
        only := fun n hn => hE'old n (hal ▸ hn)
        wrote := fun hw i n o' h1 h2 => by
          rw [e2] at h2
          obtain ⟨q, p, s, hq, hpq, hs, rfl⟩ := updOf_get cs k.pre k.post i o' h2
          obtain ⟨m, q', hm, hq', hlt⟩ := hcs i p hpq
          rw [hrd i m hlt hm] at h1; cases h1
          obtain ⟨b, cc, hb, hob⟩ := hp.objs i n q (hrd i n hlt hm) hq
          refine ⟨b, cc, hb, ?_⟩
          cases ho' : p.owned with
          | true =>
            simp only [if_true]
            obtain ⟨b2, c2', hb2, hob2⟩ := hpost.objs i s hs
            have := hpost.le i _ (hEc i n _ hm hb)
            rw [hb2] at this; cases this
            exact hob2.ren hren
          | false =>
            simp only [Bool.false_eq_true, if_false]
            have hlive : q.live = true := List.all_eq_true.1 c5 q (List.mem_of_getElem? hq)
            refine (hob.block fun hl0 ht0 => hpost.keep b (hob.lt hl0 ht0) fun j o2 c2 h3 h4 h5 => ?_).mono hle
            obtain ⟨m2, hlt2, hm2, hE2⟩ := hEc' j _ h5
            obtain ⟨_, q2, hm2', hq2, _⟩ := hcs j o2 h3
            have hown : q2.owned = true := by
              have := all_zip (f := fun a b => (!a.owned || b.owned) && (!b.isFlat || a.isFlat)) c4 h3 hq2
              simp only [h4, Bool.and_eq_true] at this; simpa using this.1
            have hnm : j ≠ i := by rintro rfl; rw [hpq] at h3; cases h3; rw [ho'] at h4; cases h4
            exact hp.apart j i m2 n q2 q b c2 b cc (hrd j m2 hlt2 hm2) (hrd i n hlt hm) hq2 hq hown hlive hE2 hb (hne j i m2 n o2 h3 h4 hnm hlt hm2 hm) ht0
        made := fun i n o' h1 h2 => by
          rw [hal] at h1
          rw [e3] at h2
          simp only [List.getElem?_map, Option.map_eq_some_iff] at h2
          obtain ⟨s, hs, rfl⟩ := h2
          rw [List.getElem?_drop] at hs
          obtain ⟨b, cc, hb, hob⟩ := hpost.objs _ s hs
          refine ⟨b, cc, (hE'al i n h1).trans hb, hob.ren hren, fun ht => ?_⟩
          rcases hpost.made _ b cc s (Nat.le_add_right _ _) hs hb (touches_ren ht) with h | ⟨j, c', o2, g1, g2, g3, g4⟩
          · exact .inl h
          · obtain ⟨m2, hlt2, hm2, hE2⟩ := hEc' j _ g4
            obtain ⟨_, q2, _, hq2, _⟩ := hcs j o2 g1
            refine .inr ⟨hwr j o2 g1 g2, j, m2, c', hrd j m2 hlt2 hm2, ?_, hE2⟩
            rw [e2, updOf_at cs k.pre k.post j q2 o2 _ hq2 g1 g3, g2]; rfl
        keep := fun j hj hne' => hpost.keep j hj fun n o2 c2 h3 h4 h5 => by
          obtain ⟨m2, _, hm2, hE2⟩ := hEc' n _ h5
          exact hne' m2 (by rw [hF]; exact mem_ws.2 ⟨n, o2, hm2, h3, h4⟩) c2 hE2
        newApart := fun i j n m o1 o2 b cc b' c' h1 h2 g1 g2 w1 w2 h3 h4 h5 => by
          rw [hal] at h1 h2
          rw [hE'al i n h1] at h3
          rw [hE'al j m h2] at h4
          rw [e3] at g1 g2
          simp only [List.getElem?_map, Option.map_eq_some_iff] at g1 g2
          obtain ⟨s1, hs1, rfl⟩ := g1
          obtain ⟨s2, hs2, rfl⟩ := g2
          rw [List.getElem?_drop] at hs1 hs2
          exact fun ht => hpost.newApart _ _ s1 s2 b cc b' c' (Nat.le_add_right _ _) (Nat.le_add_right _ _) hs1 hs2 (by rw [← AObj.ren_owned]; exact w1) (by rw [← AObj.ren_live]; exact w2) h3 h4 (by omega) (touches_ren ht)
        grow := hpost.grow, os := hpost.os, tape := hpost.tape, output := hpost.output }
  · cases d1

end Go.Proofs.YtanhlbdcjonaoaaDoor.Sx

/- The symbolic executor, part O: one step of a region on a state is sound. -/
set_option linter.unusedSimpArgs false
set_option linter.unusedVariables false
namespace Go.Proofs.YtanhlbdcjonaoaaDoor.Sx
open Go

variable {P : Program}

def AState.put (s : AState) (dst : Option Tmp) (v : AV) : AState :=
  match dst with
  | some d => { s with slots := s.slots.set d (some v) }
  | none => s

def setMem (mem : List (Option AObj)) : List Nat → List AObj → List (Option AObj)
  | n :: ns, o :: os => setMem (mem.set n (some o)) ns os
  | _, _ => mem

def evs (s : AState) : List Operand → Option (List AV)
  | [] => some []
  | x :: xs => match s.ev x, evs s xs with
    | some v, some vs => some (v :: vs)
    | _, _ => none

def objs (mem : List (Option AObj)) : List Nat → Option (List AObj)
  | [] => some []
  | n :: ns => match mem[n]?, objs mem ns with
    | some (some o), some os => some (o :: os)
    | _, _ => none

def nodupB : List Nat → Bool
  | [] => true
  | n :: ns => !ns.contains n && nodupB ns

def freshB (mem : List (Option AObj)) (n : Nat) : Bool :=
  match mem[n]? with
  | some none => true
  | _ => false

def ownedB (mem : List (Option AObj)) (n : Nat) : Bool :=
  match mem[n]? with
  | some (some o) => o.owned
  | _ => false

/-- Does the operation's guard let it run? -/
def guardA (ops : Array Oper) (o : Oper) (s : AState) : Option Bool :=
  match o.guard with
  | none => some true
  | some (j, want) =>
    match (ops[j]?).bind (·.dst) with
    | some d => match (s.slots[d]?).join with
      | some (.bool b) => some (b == want)
      | some (.tuple []) => some false
      | _ => none
    | none => some false

def updOK : List AObj → List AObj → Bool
  | [], [] => true
  | u :: us, c :: cs => (!u.owned || c.owned) && (!u.live || c.live) && (u.live || c.owned) && (!c.isFlat || u.isFlat) && (!u.mine || c.mine) && updOK us cs
  | _, _ => false

structure Step where
  obl : List Prop
  foot : Foot
  st : AState

def astep (P : Program) (ops : Array Oper) (h : Hint) (o : Oper) (s : AState) : Option Step :=
  match guardA ops o s with
  | none => none
  | some false => some ⟨[], .no, s.put o.dst (.tuple [])⟩
  | some true =>
    match evs s o.op.operands.toList with
    | none => none
    | some vals =>
      match foot h o.op vals with
      | none => none
      | some F =>
        match objs s.mem F.rd with
        | none => none
        | some cs =>
          if nodupB F.al && (F.ws.isEmpty || nodupB F.rd) && F.al.all (freshB s.mem) && F.ws.all (F.rd.contains ·) && F.ws.all (ownedB s.mem) then
            match (match callA h P o.op vals cs with | some r => some r | none => act P h o.op vals cs) with
            | none => none
            | some r =>
              if r.new.length == F.al.length && (F.ws.isEmpty || updOK r.upd cs) then
                some ⟨r.obl, F, { s.put o.dst r.val with mem := setMem (if F.ws.isEmpty then s.mem else setMem s.mem F.rd r.upd) F.al r.new }⟩
              else none
          else none

theorem nodupB_spec : ∀ {l : List Nat}, nodupB l = true → l.Nodup
  | [], _ => List.nodup_nil
  | n :: ns, h => by
    simp only [nodupB, Bool.and_eq_true, Bool.not_eq_true', List.contains_eq_mem, decide_eq_false_iff_not] at h
    exact List.nodup_cons.2 ⟨h.1, nodupB_spec h.2⟩

theorem evs_den {w0 w : World} {M : Nat → Prop} {E : Env} {s : AState} {a : Act} (h : Rel w0 M E s a w) : ∀ (xs : List Operand) (vs : List AV), evs s xs = some vs → denL E vs = some (xs.map a.eval)
  | [], vs, e => by simp [evs] at e; subst e; rfl
  | x :: xs, vs, e => by
    simp only [evs] at e
    split at e
    · rename_i v us hv hu; cases e
      exact denL_cons.2 ⟨_, _, h.ev hv, evs_den h xs us hu, rfl⟩
    · cases e

theorem objs_get {mem : List (Option AObj)} : ∀ (ns : List Nat) (cs : List AObj), objs mem ns = some cs → cs.length = ns.length ∧ ∀ (i n : Nat) (o : AObj), ns[i]? = some n → cs[i]? = some o → mem[n]? = some (some o)
  | [], cs, h => by simp [objs] at h; subst h; exact ⟨rfl, fun i n o h => by simp at h⟩
  | n :: ns, cs, h => by
    simp only [objs] at h
    split at h
    · rename_i o os ho hos; cases h
      obtain ⟨hl, hg⟩ := objs_get ns os hos
      refine ⟨by simp [hl], fun i m o' h1 h2 => ?_⟩
      cases i with
      | zero => simp at h1 h2; subst h1; subst h2; exact ho
      | succ i => exact hg i m o' (by simpa using h1) (by simpa using h2)
    · cases h

theorem setMem_length : ∀ (ns : List Nat) (os : List AObj) (mem : List (Option AObj)), (setMem mem ns os).length = mem.length
  | [], _, mem => by simp [setMem]
  | _ :: _, [], mem => by simp [setMem]
  | n :: ns, o :: os, mem => by simp [setMem, setMem_length ns os]

theorem setMem_not : ∀ (ns : List Nat) (os : List AObj) (mem : List (Option AObj)) (n : Nat), n ∉ ns → (setMem mem ns os)[n]? = mem[n]?
  | [], _, mem, n, _ => by simp [setMem]
  | _ :: _, [], mem, n, _ => by simp [setMem]
  | m :: ns, o :: os, mem, n, h => by
    simp only [List.mem_cons, not_or] at h
    rw [setMem, setMem_not ns os _ n h.2, List.getElem?_set_ne (fun e => h.1 e.symm)]

theorem setMem_at : ∀ (ns : List Nat) (os : List AObj) (mem : List (Option AObj)) (i n : Nat) (o : AObj), ns.Nodup → n < mem.length → ns[i]? = some n → os[i]? = some o → (setMem mem ns os)[n]? = some (some o)
  | [], _, mem, i, n, o, _, _, h, _ => by simp at h
  | _ :: _, [], mem, i, n, o, _, _, _, h => by simp at h
  | m :: ns, u :: os, mem, 0, n, o, hn, hl, h1, h2 => by
    simp at h1 h2; subst h1; subst h2
    rw [setMem, setMem_not ns os _ _ (List.nodup_cons.1 hn).1]
    simp [hl]
  | m :: ns, u :: os, mem, i + 1, n, o, hn, hl, h1, h2 => by
    rw [setMem]
    exact setMem_at ns os _ i n o (List.nodup_cons.1 hn).2 (by simpa using hl) (by simpa using h1) (by simpa using h2)

theorem updOK_get : ∀ (us cs : List AObj) (i : Nat) (u c : AObj), updOK us cs = true → us[i]? = some u → cs[i]? = some c → (u.owned = true → c.owned = true) ∧ (u.live = true → c.live = true) ∧ (u.live = true ∨ c.owned = true) ∧ (c.isFlat = true → u.isFlat = true) ∧ (u.mine = true → c.mine = true)
  | [], [], i, u, c, _, h, _ => by simp at h
  | [], _ :: _, i, u, c, h, _, _ => by simp [updOK] at h
  | _ :: _, [], i, u, c, h, _, _ => by simp [updOK] at h
  | u :: us, c :: cs, 0, _, _, h, h1, h2 => by
    simp at h1 h2; subst h1; subst h2
    simp only [updOK, Bool.and_eq_true, Bool.or_eq_true, Bool.not_eq_true'] at h
    obtain ⟨⟨⟨⟨⟨a, b⟩, d⟩, f⟩, g⟩, _⟩ := h
    exact ⟨fun e => by simpa [e] using a, fun e => by simpa [e] using b, d, fun e => by simpa [e] using f, fun e => by simpa [e] using g⟩
  | u :: us, c :: cs, i + 1, x, y, h, h1, h2 => by
    simp only [updOK, Bool.and_eq_true] at h
    exact updOK_get us cs i x y h.2 (by simpa using h1) (by simpa using h2)

theorem updOK_length : ∀ (us cs : List AObj), updOK us cs = true → us.length = cs.length
  | [], [], _ => rfl
  | [], _ :: _, h => by simp [updOK] at h
  | _ :: _, [], h => by simp [updOK] at h
  | u :: us, c :: cs, h => by simp only [updOK, Bool.and_eq_true] at h; simp [updOK_length us cs h.2]

theorem put_slots {s : AState} {dst : Option Tmp} {v : AV} : (s.put dst v).mem = s.mem := by cases dst <;> rfl

theorem Rel.put {w0 w : World} {M : Nat → Prop} {E : Env} {s : AState} {a : Act} (h : Rel w0 M E s a w) (dst : Option Tmp) {v : AV} {x : Value} (hd : den E v = some x) : Rel w0 M E (s.put dst v) (a.put dst x) w := by
  cases dst with
  | none => exact h
  | some d =>
    exact { h with
      size := by simp [Act.put, AState.put, h.size]
      slots := fun t u ht => by
        simp only [AState.put, Act.put] at ht ⊢
        by_cases e : d = t
        · subst e
          have hlt : d < s.slots.length := by
            have := (List.getElem?_eq_some_iff.1 ht).1; simpa using this
          rw [List.getElem?_set_self hlt] at ht
          cases ht
          exact ⟨x, by rw [Array.getElem?_setIfInBounds_self_of_lt (by rw [h.size]; exact hlt)], hd⟩
        · rw [List.getElem?_set_ne e] at ht
          obtain ⟨y, hy, hdy⟩ := h.slots t u ht
          exact ⟨y, by rw [Array.getElem?_setIfInBounds_ne e]; exact hy, hdy⟩ }

/-- Memory behind a step. -/
theorem Rel.step {w0 w w' : World} {M : Nat → Prop} {E E' : Env} {s : AState} {a : Act} {F : Foot} {cs upd new : List AObj} (h : Rel w0 M E s a w) (he : Eff E E' w w' F upd new) (hc : objs s.mem F.rd = some cs)
    (hal : F.al.Nodup) (hrd : F.ws = [] ∨ F.rd.Nodup) (hfr : ∀ n ∈ F.al, s.mem[n]? = some none) (hsub : ∀ n ∈ F.ws, n ∈ F.rd) (hnl : new.length = F.al.length) (hu : F.ws = [] ∨ updOK upd cs = true) (hws : ∀ n ∈ F.ws, ∀ o, s.mem[n]? = some (some o) → o.owned = true) :
    Rel w0 M E' { s with mem := setMem (if F.ws.isEmpty then s.mem else setMem s.mem F.rd upd) F.al new } a w' := by
  obtain ⟨hcl, hcg⟩ := objs_get F.rd cs hc
  -- what is in the memory now, and where it comes from
  let mem1 := if F.ws.isEmpty then s.mem else setMem s.mem F.rd upd
  have hl1 : mem1.length = s.mem.length := by
    simp only [mem1]; split
    · rfl
    · exact setMem_length _ _ _
  have hrdlt : ∀ n ∈ F.rd, ∃ o, s.mem[n]? = some (some o) := fun n hn => by
    obtain ⟨i, hi⟩ := List.getElem?_of_mem hn
    have hlt := (List.getElem?_eq_some_iff.1 hi).1
    exact ⟨_, hcg i n (cs[i]'(by omega)) hi (List.getElem?_eq_getElem _)⟩
  have hal_rd : ∀ n ∈ F.al, n ∉ F.rd := fun n hn hr => by
    obtain ⟨o, ho⟩ := hrdlt n hr
    rw [hfr n hn] at ho; cases ho
  have old : ∀ n o, mem1[n]? = some (some o) → (s.mem[n]? = some (some o) ∧ (n ∉ F.rd ∨ F.ws = [])) ∨ (F.ws ≠ [] ∧ ∃ i c, F.rd[i]? = some n ∧ upd[i]? = some o ∧ cs[i]? = some c ∧ s.mem[n]? = some (some c)) := fun n o hn => by
    simp only [mem1] at hn
    split at hn
    · rename_i hw; exact .inl ⟨hn, .inr (by simpa using hw)⟩
    · rename_i hw
      have hw : F.ws ≠ [] := by simpa using hw
      have hnd := hrd.resolve_left hw
      have hok := hu.resolve_left hw
      by_cases hm : n ∈ F.rd
      · obtain ⟨i, hi⟩ := List.getElem?_of_mem hm
        have hlt := (List.getElem?_eq_some_iff.1 hi).1
        have hul := updOK_length _ _ hok
        have hci : cs[i]? = some (cs[i]'(by omega)) := List.getElem?_eq_getElem _
        have hui : upd[i]? = some (upd[i]'(by omega)) := List.getElem?_eq_getElem _
        have hmem := hcg i n _ hi hci
        have hlt' := (List.getElem?_eq_some_iff.1 hmem).1
        rw [setMem_at F.rd upd s.mem i n _ hnd hlt' hi hui] at hn
        cases hn
        exact .inr ⟨hw, i, _, hi, hui, hci, hmem⟩
      · rw [setMem_not _ _ _ _ hm] at hn; exact .inl ⟨hn, .inl hm⟩
  have now : ∀ n o, (setMem mem1 F.al new)[n]? = some (some o) → (n ∉ F.al ∧ mem1[n]? = some (some o)) ∨ (∃ i, F.al[i]? = some n ∧ new[i]? = some o) := fun n o hn => by
    by_cases hm : n ∈ F.al
    · obtain ⟨i, hi⟩ := List.getElem?_of_mem hm
      have hlt := (List.getElem?_eq_some_iff.1 hi).1
      have hni : new[i]? = some (new[i]'(by omega)) := List.getElem?_eq_getElem _
      have hlt' := (List.getElem?_eq_some_iff.1 (hfr n hm)).1
      rw [setMem_at F.al new mem1 i n _ hal (by omega) hi hni] at hn
      cases hn
      exact .inr ⟨i, hi, hni⟩
    · rw [setMem_not _ _ _ _ hm] at hn; exact .inl ⟨hm, hn⟩
  -- an old name's block: where it stood, with what there was of it
  have oldBlock : ∀ n o, mem1[n]? = some (some o) → ∃ b c o0, E n = some (b, c) ∧ E' n = some (b, c) ∧ s.mem[n]? = some (some o0) ∧ ObjR E' w' b c o ∧ (o.owned = true → o0.owned = true) ∧ (o.live = true → o0.live = true) ∧ (o0.isFlat = true → o.isFlat = true) ∧ (o.mine = true → o0.mine = true) := fun n o hn => by
    rcases old n o hn with ⟨hs, hor⟩ | ⟨hw, i, c0, hi, hui, hci, hs⟩
    · obtain ⟨b, c, hE, hob, _⟩ := h.mem n o hs
      refine ⟨b, c, o, hE, he.le _ _ hE, hs, ?_, id, id, id, id⟩
      cases hl : o.live with
      | false => cases o <;> simp [AObj.live] at hl; trivial
      | true =>
        refine (hob.block fun hl0 ht0 => he.keep b (hob.lt hl0 ht0) fun m hm c2 hE2 => ?_).mono he.le
        obtain ⟨om, hom⟩ := hrdlt m (hsub m hm)
        have hnm : m ≠ n := by
          rintro rfl
          rcases hor with h1 | h1
          · exact h1 (hsub m hm)
          · rw [h1] at hm; cases hm
        exact h.apart m n om o b c2 b c hom hs (hws m hm om hom) hl hE2 hE hnm ht0
    · obtain ⟨b, c, hE, hob, _⟩ := h.mem n c0 hs
      have hwr : F.wr = true := by unfold Foot.wr; cases hh : F.ws with | nil => exact absurd hh hw | cons => rfl
      obtain ⟨b', c', hE', hob'⟩ := he.wrote hwr i n o hi hui
      rw [hE] at hE'; cases hE'
      obtain ⟨g1, g2, _, g4, g6⟩ := updOK_get _ _ i o c0 (hu.resolve_left hw) hui hci
      exact ⟨b, c, c0, hE, he.le _ _ hE, hs, hob', g1, g2, g4, g6⟩
  -- a new name's block against an old one's
  have newOld : ∀ (i n : Nat) (o : AObj) (m : Nat) (u : AObj) (b : Nat) (c : Cap) (b' : Nat) (c' : Cap), F.al[i]? = some n → new[i]? = some o → m ∉ F.al → mem1[m]? = some (some u) → (o.live = true) → (u.live = true) → (o.owned = true ∨ u.owned = true) → E' n = some (b, c) → E' m = some (b', c') → touches b c o b → touches b' c' u b' → b ≠ b' := fun i n o m u b c b' c' h1 h2 h3 h4 h5 h6 h7 h8 h9 ht1 ht2 => by
    obtain ⟨b2, c2, o0, hE, hE', hs, hob, g1, g2, g5, _⟩ := oldBlock m u h4
    rw [h9] at hE'; cases hE'
    obtain ⟨b3, c3, hE3, hob3, hor⟩ := he.made i n o h1 h2
    rw [h8] at hE3; cases hE3
    obtain ⟨b4, c4, hE4, hob4, _⟩ := h.mem m o0 hs
    rw [hE] at hE4; cases hE4
    have ht0 := touches_fit g5 ht2
    have hlt := hob4.lt (g2 h6) ht0
    rcases hor ht1 with h | ⟨hw, j, k, c5, hj, hd, hEk⟩
    · omega
    · rintro rfl
      have hwsne : F.ws ≠ [] := by intro e; rw [Foot.wr, e] at hw; cases hw
      have hlt2 := (List.getElem?_eq_some_iff.1 hj).1
      have hck : cs[j]? = some (cs[j]'(by omega)) := List.getElem?_eq_getElem _
      obtain ⟨_, _, g3, _⟩ := updOK_get _ _ j _ _ (hu.resolve_left hwsne) hd hck
      have hown : (cs[j]'(by omega)).owned = true := g3.resolve_left (by decide)
      have hsk := hcg j k _ hj hck
      by_cases hkm : k = m
      · subst hkm
        rcases old k u h4 with ⟨hs', hor'⟩ | ⟨_, i2, c6, hi2, hui2, _, _⟩
        · rcases hor' with g | g
          · exact g (List.mem_of_getElem? hj)
          · exact hwsne g
        · have : i2 = j := (List.getElem?_inj (List.getElem?_eq_some_iff.1 hi2).1 (hrd.resolve_left hwsne)).1 (by rw [hi2, hj])
          subst this
          rw [hd] at hui2; cases hui2; cases h6
      · exact h.apart k m _ o0 b c5 b c' hsk hs hown (g2 h6) hEk hE hkm ht0
  exact {
    size := h.size
    slots := fun t v ht => let ⟨x, hx, hd⟩ := h.slots t v ht; ⟨x, hx, den_mono he.le v x hd⟩
    defers := h.defers
    fresh := fun n hn => by
      have hna : n ∉ F.al := fun hm => by
        obtain ⟨i, hi⟩ := List.getElem?_of_mem hm
        have hlt := (List.getElem?_eq_some_iff.1 hi).1
        have hni : new[i]? = some (new[i]'(by omega)) := List.getElem?_eq_getElem _
        have hlt' := (List.getElem?_eq_some_iff.1 (hfr n hm)).1
        have hn' : (setMem mem1 F.al new)[n]? = some none := hn
        rw [setMem_at F.al new mem1 i n _ hal (by omega) hi hni] at hn'
        cases hn'
      have hn' : (setMem mem1 F.al new)[n]? = some none := hn
      rw [setMem_not _ _ _ _ hna] at hn'
      have hs : s.mem[n]? = some none := by
        simp only [mem1] at hn'
        split at hn'
        · exact hn'
        · rename_i hw
          have hw : F.ws ≠ [] := by simpa using hw
          by_cases hm : n ∈ F.rd
          · obtain ⟨i, hi⟩ := List.getElem?_of_mem hm
            have hlt := (List.getElem?_eq_some_iff.1 hi).1
            have hul := updOK_length _ _ (hu.resolve_left hw)
            obtain ⟨o, ho⟩ := hrdlt n hm
            have hlt' := (List.getElem?_eq_some_iff.1 ho).1
            rw [setMem_at F.rd upd s.mem i n (upd[i]'(by omega)) (hrd.resolve_left hw) hlt' hi (List.getElem?_eq_getElem _)] at hn'
            cases hn'
          · rwa [setMem_not _ _ _ _ hm] at hn'
      rw [he.only n hna]; exact h.fresh n hs
    mem := fun n o hn => by
      rcases now n o hn with ⟨hna, hm1⟩ | ⟨i, hi, hni⟩
      · obtain ⟨b, c, o0, hE, hE', hs, hob, g1, g2, g5, g6⟩ := oldBlock n o hm1
        refine ⟨b, c, hE', hob, fun ho ht => ?_⟩
        obtain ⟨b', c', hE2, _, hM⟩ := h.mem n o0 hs
        rw [hE] at hE2; cases hE2
        exact hM (g6 ho) (touches_fit g5 ht)
      · obtain ⟨b, c, hE', hob, hor⟩ := he.made i n o hi hni
        refine ⟨b, c, hE', hob, fun ho ht => ?_⟩
        rcases hor ht with g | ⟨hw, j, k, c', hj, hd, hEk⟩
        · exact .inl (Nat.le_trans h.grow g)
        · have hwsne : F.ws ≠ [] := by intro e; rw [Foot.wr, e] at hw; cases hw
          have hlt2 := (List.getElem?_eq_some_iff.1 hj).1
          have hck : cs[j]? = some (cs[j]'(by omega)) := List.getElem?_eq_getElem _
          obtain ⟨_, _, g3, _⟩ := updOK_get _ _ j _ _ (hu.resolve_left hwsne) hd hck
          have hown : (cs[j]'(by omega)).owned = true := g3.resolve_left (by decide)
          obtain ⟨b2, c2, hE2, _, hM⟩ := h.mem k _ (hcg j k _ hj hck)
          rw [hEk] at hE2; cases hE2
          exact hM (mine_owned hown) (touches_owned hown)
    apart := fun n m o o' b c b' c' hn hm ho ho' hE1 hE2 hnm => by
      rcases now n o hn with ⟨hna, hn1⟩ | ⟨i, hi, hni⟩
      · rcases now m o' hm with ⟨hma, hm1⟩ | ⟨j, hj, hmj⟩
        · obtain ⟨x1, y1, o1, e1, e1', s1, _, g1, _⟩ := oldBlock n o hn1
          obtain ⟨x2, y2, o2, e2, e2', s2, _, _, g2, g5, _⟩ := oldBlock m o' hm1
          rw [hE1] at e1'; cases e1'
          rw [hE2] at e2'; cases e2'
          exact fun ht => h.apart n m o1 o2 b c b' c' s1 s2 (g1 ho) (g2 ho') e1 e2 hnm (touches_fit g5 ht)
        · have hlive : o.live = true := by cases o <;> first | rfl | cases ho
          exact fun e => newOld j m o' n o b' c' b c hj hmj hna hn1 ho' hlive (.inr ho) hE2 hE1 (touches_eq e ▸ e) (touches_owned ho) (touches_eq e).symm
      · rcases now m o' hm with ⟨hma, hm1⟩ | ⟨j, hj, hmj⟩
        · have hlive : o.live = true := by cases o <;> first | rfl | cases ho
          exact fun e => newOld i n o m o' b c b' c' hi hni hma hm1 hlive ho' (.inl ho) hE1 hE2 (touches_owned ho) (touches_eq e ▸ e) (touches_eq e)
        · exact he.newApart i j n m o o' b c b' c' hi hj hni hmj ho ho' hE1 hE2 (by rintro rfl; rw [hi] at hj; cases hj; exact hnm rfl)
    frame := fun k hk hM => by
      rw [he.keep k (Nat.lt_of_lt_of_le hk h.grow) fun m hm c hE => ?_]
      · exact h.frame k hk hM
      · obtain ⟨om, hom⟩ := hrdlt m (hsub m hm)
        obtain ⟨b, c2, hE2, _, hor⟩ := h.mem m om hom
        rw [hE] at hE2; cases hE2
        rcases hor (mine_owned (hws m hm om hom)) (touches_owned (hws m hm om hom)) with g | g
        · omega
        · exact hM g
    grow := Nat.le_trans h.grow he.grow
    os := he.os.trans h.os, tape := he.tape.trans h.tape, output := he.output.trans h.output, glob := h.glob }

theorem guardA_spec {w0 w : World} {M : Nat → Prop} {E : Env} {s : AState} {a : Act} {ops : Array Oper} {o : Oper} {b : Bool} (h : Rel w0 M E s a w) (hg : guardA ops o s = some b) : Region.wanted o (yielded ops a.tmps) = b := by
  unfold guardA at hg
  unfold Region.wanted
  split at hg
  · rename_i h0; rw [h0]; cases hg; rfl
  · rename_i j want h0
    rw [h0]
    simp only
    split at hg
    · rename_i d hd
      split at hg
      · rename_i b' hb
        cases hg
        obtain ⟨x, hx, hdx⟩ := h.slots d _ (by simpa using Option.join_eq_some_iff.1 hb)
        cases hdx
        simp only [yielded, hd, Option.bind_some, hx]
        cases b' <;> cases want <;> rfl
      · rename_i hb
        cases hg
        obtain ⟨x, hx, hdx⟩ := h.slots d _ (by simpa using Option.join_eq_some_iff.1 hb)
        cases hdx
        simp only [yielded, hd, Option.bind_some, hx]
        rfl
      · cases hg
    · rename_i hd
      cases hg
      simp only [yielded, hd, Option.bind_none]
      rfl

theorem astep_sound {w0 w : World} {M : Nat → Prop} {E : Env} {s : AState} {a : Act} {ops : Array Oper} {h : Hint} {o : Oper} {st : Step} {next : Act → World → Prop} {Q : Exit → Act → World → Prop} (hs : astep P ops h o s = some st) (hob : AllP st.obl) (hR : Rel w0 M E s a w)
    (hn : ∀ E' a' w', Env.le E E' → Rel w0 M E' st.st a' w' → next a' w') :
    if Region.wanted o (yielded ops a.tmps) then o.wp P a w next Q else next (a.put o.dst undef) w := by
  unfold astep at hs
  split at hs
  · cases hs
  · rename_i hg
    cases hs
    rw [guardA_spec hR hg]
    exact hn E _ w (.refl _) (hR.put o.dst rfl)
  · rename_i hg
    rw [guardA_spec hR hg]
    simp only [if_true]
    split at hs
    · cases hs
    · rename_i vals hv
      split at hs
      · cases hs
      · rename_i F hf
        split at hs
        · cases hs
        · rename_i cs hc
          split at hs
          · rename_i hck
            simp only [Bool.and_eq_true, Bool.or_eq_true] at hck
            obtain ⟨⟨⟨⟨k1, k2⟩, k3⟩, k4⟩, k5⟩ := hck
            split at hs
            · cases hs
            · rename_i r hr
              split at hs
              · rename_i hfin
                simp only [Bool.and_eq_true, Bool.or_eq_true, beq_iff_eq] at hfin
                cases hs
                obtain ⟨hcl, hcg⟩ := objs_get F.rd cs hc
                have hal := nodupB_spec k1
                have hrd : F.ws = [] ∨ F.rd.Nodup := k2.imp (by simp) nodupB_spec
                have hfr : ∀ n ∈ F.al, s.mem[n]? = some none := fun n hn' => by
                  have := List.all_eq_true.1 k3 n hn'
                  unfold freshB at this
                  split at this
                  · assumption
                  · cases this
                have hsub : ∀ n ∈ F.ws, n ∈ F.rd := fun n hn' => by
                  have := List.all_eq_true.1 k4 n hn'
                  simpa using this
                have hws : ∀ n ∈ F.ws, ∀ o, s.mem[n]? = some (some o) → o.owned = true := fun n hn' o' ho' => by
                  have := List.all_eq_true.1 k5 n hn'
                  unfold ownedB at this
                  rw [ho'] at this
                  exact this
                have hpre : Pre E w F cs :=
                  { len := hcl
                    objs := fun i n o' h1 h2 => let ⟨b, c, e, ob, _⟩ := hR.mem n o' (hcg i n o' h1 h2); ⟨b, c, e, ob⟩
                    fresh := fun n hn' => hR.fresh n (hfr n hn')
                    nodup := hal
                    rdNodup := fun hw => hrd.resolve_left (by intro e; rw [Foot.wr, e] at hw; cases hw)
                    apart := fun i j n m o1 o2 b c b' c' h1 h2 h3 h4 h5 h6 h7 h8 h9 => hR.apart n m o1 o2 b c b' c' (hcg i n o1 h1 h3) (hcg j m o2 h2 h4) h5 h6 h7 h8 h9
                    glob := fun g hg => by
                      obtain ⟨g1, g2, g3⟩ := hR.globNow g hg
                      exact ⟨g1, fun ⟨i, n, o', c, h1, h2, h3, h4⟩ => g2 ⟨n, o', c, hcg i n o' h1 h2, h3, h4⟩, g3⟩ }
                have hden := evs_den hR _ _ hv
                have fin : ∀ E' x w', den E' r.val = some x → Eff E E' w w' F r.upd r.new → Rel w0 M E' { s.put o.dst r.val with mem := setMem (if F.ws.isEmpty then s.mem else setMem s.mem F.rd r.upd) F.al r.new } (a.put o.dst x) w' := fun E' x w' hx he => by
                  have := (hR.step he hc hal hrd hfr hsub hfin.1 (hfin.2.imp (by simp) id) hws).put o.dst hx
                  have e : ({ s with mem := setMem (if F.ws.isEmpty then s.mem else setMem s.mem F.rd r.upd) F.al r.new } : AState).put o.dst r.val = { s.put o.dst r.val with mem := setMem (if F.ws.isEmpty then s.mem else setMem s.mem F.rd r.upd) F.al r.new } := by
                    cases o.dst <;> rfl
                  rwa [e] at this
                unfold Oper.wp
                split at hr
                · rename_i r' hca
                  cases hr
                  obtain ⟨f, args, hrun, hcalls⟩ := call_sound hden hf hpre hca hob
                  rw [hrun]
                  rcases hcalls with ⟨g, as, h1, h2⟩ | ⟨v, w', h1, E', x, hv', hx, he⟩
                  · rw [h1, Oper.upon_enter]
                    refine h2.mono ?_
                    rintro e w' ⟨E', x, rfl, hx, he⟩
                    exact hn E' _ w' he.le (fin E' x w' hx he)
                  · cases hv'
                    rw [h1, Oper.upon_value]
                    exact hn E' _ w' he.le (fin E' _ w' hx he)
                · obtain ⟨x, w', E', hrun, hx, he⟩ := act_sound hden hf hpre hr hob
                  rcases hrun with hrun | ⟨hrun, rfl⟩
                  · rw [hrun, Oper.upon_value]
                    exact hn E' _ w' he.le (fin E' x w' hx he)
                  · rw [hrun, Oper.upon_skip]
                    exact hn E' _ w' he.le (fin E' undef w' hx he)
              · cases hs
          · cases hs

end Go.Proofs.YtanhlbdcjonaoaaDoor.Sx

/- The symbolic executor, part P: a region, in whatever order its edges allow. -/
set_option linter.unusedSimpArgs false
set_option linter.unusedVariables false
namespace Go.Proofs.YtanhlbdcjonaoaaDoor.Sx
open Go

variable {P : Program}

/-- The slots that an operation looks at. -/
def tmpsOf : List Operand → List Nat
  | [] => []
  | .tmp t :: xs => t :: tmpsOf xs
  | _ :: xs => tmpsOf xs

def looks (ops : Array Oper) (o : Oper) : List Nat :=
  (match o.guard with
    | none => []
    | some (j, _) => match (ops[j]?).bind (·.dst) with | some d => [d] | none => []) ++ tmpsOf o.op.operands.toList

/-- What a step does to a state. -/
structure Delta where
  dst : Option Tmp
  v : AV
  wn : List Nat
  wo : List AObj
  an : List Nat
  ao : List AObj

def Delta.app (d : Delta) (s : AState) : AState := { s.put d.dst d.v with mem := setMem (setMem s.mem d.wn d.wo) d.an d.ao }

structure Agree (ops : Array Oper) (o : Oper) (F : Foot) (s s' : AState) : Prop where
  slots : ∀ t ∈ looks ops o, s'.slots[t]? = s.slots[t]?
  rd : ∀ n ∈ F.rd, s'.mem[n]? = s.mem[n]?
  al : ∀ n ∈ F.al, s'.mem[n]? = s.mem[n]?

theorem ev_congr {s s' : AState} {x : Operand} (h : ∀ t, x = .tmp t → s'.slots[t]? = s.slots[t]?) : s'.ev x = s.ev x := by
  cases x with
  | tmp t => simp only [AState.ev, h t rfl]
  | _ => rfl

theorem evs_congr {s s' : AState} : ∀ (xs : List Operand), (∀ t ∈ tmpsOf xs, s'.slots[t]? = s.slots[t]?) → evs s' xs = evs s xs
  | [], _ => rfl
  | x :: xs, h => by
    have h1 : s'.ev x = s.ev x := ev_congr fun t e => h t (by subst e; simp [tmpsOf])
    have h2 : evs s' xs = evs s xs := evs_congr xs fun t ht => h t (by cases x <;> simp [tmpsOf, ht])
    simp only [evs, h1, h2]

theorem objs_congr {m m' : List (Option AObj)} : ∀ (ns : List Nat), (∀ n ∈ ns, m'[n]? = m[n]?) → objs m' ns = objs m ns
  | [], _ => rfl
  | n :: ns, h => by
    simp only [objs, h n (by simp), objs_congr ns fun k hk => h k (by simp [hk])]

theorem guardA_congr {ops : Array Oper} {o : Oper} {s s' : AState} (h : ∀ t ∈ looks ops o, s'.slots[t]? = s.slots[t]?) : guardA ops o s' = guardA ops o s := by
  unfold guardA
  cases hg : o.guard with
  | none => rfl
  | some p =>
    obtain ⟨j, want⟩ := p
    simp only
    cases hd : (ops[j]?).bind (·.dst) with
    | none => rfl
    | some d =>
      simp only
      rw [h d (by simp [looks, hg, hd])]

theorem all_congr {f g : Nat → Bool} {l : List Nat} (h : ∀ n ∈ l, f n = g n) : l.all f = l.all g := by
  induction l with
  | nil => rfl
  | cons a l ih => simp only [List.all_cons, h a (by simp), ih fun n hn => h n (by simp [hn])]

/-- A step hangs on what it looks at, and on the blocks that it names, alone. -/
theorem astep_local {ops : Array Oper} {h : Hint} {o : Oper} {s : AState} {st : Step} (hs : astep P ops h o s = some st) :
    ∃ d : Delta, st.st = d.app s ∧ d.dst = o.dst ∧ (∀ n ∈ d.wn, n ∈ st.foot.rd ∧ st.foot.ws ≠ []) ∧ d.an = st.foot.al ∧
      ∀ s', Agree ops o st.foot s s' → astep P ops h o s' = some ⟨st.obl, st.foot, d.app s'⟩ := by
  unfold astep at hs
  split at hs
  · cases hs
  · rename_i hg
    cases hs
    refine ⟨⟨o.dst, .tuple [], [], [], [], []⟩, ?_, rfl, (fun n hn => by cases hn), rfl, fun s' ha => ?_⟩
    · cases o.dst <;> rfl
    · unfold astep
      rw [guardA_congr ha.slots, hg]
      simp only [Delta.app, setMem]
      cases o.dst <;> rfl
  · rename_i hg
    split at hs
    · cases hs
    · rename_i vals hv
      split at hs
      · cases hs
      · rename_i F hf
        split at hs
        · cases hs
        · rename_i cs hc
          split at hs
          · rename_i hck
            split at hs
            · cases hs
            · rename_i r hr
              split at hs
              · rename_i hfin
                cases hs
                refine ⟨⟨o.dst, r.val, if F.ws.isEmpty then [] else F.rd, r.upd, F.al, r.new⟩, ?_, rfl, ?_, rfl, fun s' ha => ?_⟩
                · simp only [Delta.app]
                  cases F.ws.isEmpty <;> simp [setMem]
                · intro n hn
                  simp only at hn
                  split at hn
                  · cases hn
                  · rename_i hw; exact ⟨hn, by simpa using hw⟩
                · unfold astep
                  have hrd : ∀ n ∈ F.rd, s'.mem[n]? = s.mem[n]? := ha.rd
                  have hal : ∀ n ∈ F.al, s'.mem[n]? = s.mem[n]? := ha.al
                  simp only [Bool.and_eq_true] at hck
                  have hsub : ∀ n ∈ F.ws, n ∈ F.rd := fun n hn => by
                    have := List.all_eq_true.1 hck.1.2 n hn; simpa using this
                  have e1 : F.al.all (freshB s'.mem) = F.al.all (freshB s.mem) := all_congr fun n hn => by unfold freshB; rw [hal n hn]
                  have e2 : F.ws.all (ownedB s'.mem) = F.ws.all (ownedB s.mem) := all_congr fun n hn => by unfold ownedB; rw [hrd n (hsub n hn)]
                  have ht : (∀ t ∈ tmpsOf o.op.operands.toList, s'.slots[t]? = s.slots[t]?) := fun t ht => ha.slots t (by simp [looks, ht])
                  rw [guardA_congr ha.slots, hg]
                  simp only [evs_congr _ ht, hv, hf, objs_congr _ hrd, hc, e1, e2, hr]
                  rw [if_pos (by simpa only [Bool.and_eq_true] using hck), if_pos hfin]
                  simp only [Delta.app]
                  cases F.ws.isEmpty <;> simp [setMem]
              · cases hs
          · cases hs

/-- Two steps that have nothing to do with one another. -/
def dstFree (ops : Array Oper) (x y : Oper) : Bool :=
  match x.dst with
  | none => true
  | some d => !(looks ops y).contains d && !(y.dst == some d)

def memFree (F G : Foot) : Bool :=
  (F.ws.isEmpty || F.rd.all fun n => !G.rd.contains n && !G.al.contains n) && F.al.all fun n => !G.rd.contains n && !G.al.contains n

def indepB (ops : Array Oper) (x y : Oper) (F G : Foot) : Bool := dstFree ops x y && dstFree ops y x && memFree F G && memFree G F

theorem memFree_spec {F G : Foot} (h : memFree F G = true) {d : Delta} (h1 : ∀ n ∈ d.wn, n ∈ F.rd ∧ F.ws ≠ []) (h2 : d.an = F.al) : ∀ n, (n ∈ d.wn ∨ n ∈ d.an) → n ∉ G.rd ∧ n ∉ G.al := by
  simp only [memFree, Bool.and_eq_true, Bool.or_eq_true] at h
  rintro n (hn | hn)
  · obtain ⟨a, b⟩ := h1 n hn
    rcases h.1 with g | g
    · exact absurd (by simpa using g) b
    · have := List.all_eq_true.1 g n a
      simpa using this
  · have := List.all_eq_true.1 h.2 n (h2 ▸ hn)
    simpa using this

theorem app_mem_other {d : Delta} {s : AState} {n : Nat} (h1 : n ∉ d.wn) (h2 : n ∉ d.an) : (d.app s).mem[n]? = s.mem[n]? := by
  simp only [Delta.app]
  rw [setMem_not _ _ _ _ h2, setMem_not _ _ _ _ h1]

theorem app_slots_other {d : Delta} {s : AState} {t : Nat} (h : d.dst ≠ some t) : (d.app s).slots[t]? = s.slots[t]? := by
  simp only [Delta.app, AState.put]
  cases hd : d.dst with
  | none => rfl
  | some u =>
    simp only
    rw [List.getElem?_set_ne (by rintro rfl; exact h hd)]

theorem setMem_comm {ns ms : List Nat} (h : ∀ n ∈ ns, n ∉ ms) : ∀ (os us : List AObj) (mem : List (Option AObj)), setMem (setMem mem ns os) ms us = setMem (setMem mem ms us) ns os := by
  have one : ∀ (ms : List Nat) (us : List AObj) (mem : List (Option AObj)) (n : Nat) (o : AObj), n ∉ ms → setMem (mem.set n (some o)) ms us = (setMem mem ms us).set n (some o) := by
    intro ms
    induction ms with
    | nil => intro us mem n o _; simp [setMem]
    | cons m ms ih =>
      intro us mem n o hn
      simp only [List.mem_cons, not_or] at hn
      cases us with
      | nil => simp [setMem]
      | cons u us =>
        simp only [setMem]
        rw [List.set_comm _ _ (fun e => hn.1 e), ih us _ n o hn.2]
  induction ns with
  | nil => intro os us mem; simp [setMem]
  | cons n ns ih =>
    intro os us mem
    cases os with
    | nil => simp [setMem]
    | cons o os =>
      simp only [setMem]
      rw [ih (fun k hk => h k (by simp [hk])), one ms us mem n o (h n (by simp))]

theorem astep_comm {ops : Array Oper} {hi hj : Hint} {x y : Oper} {s : AState} {st1 st2 : Step} (h1 : astep P ops hi x s = some st1) (h2 : astep P ops hj y st1.st = some st2) (hind : indepB ops x y st1.foot st2.foot = true) :
    ∃ st1' st2', astep P ops hj y s = some st1' ∧ st1'.obl = st2.obl ∧ st1'.foot = st2.foot ∧ astep P ops hi x st1'.st = some st2' ∧ st2'.obl = st1.obl ∧ st2'.foot = st1.foot ∧ st2'.st = st2.st := by
  simp only [indepB, Bool.and_eq_true] at hind
  obtain ⟨⟨⟨i1, i2⟩, i3⟩, i4⟩ := hind
  obtain ⟨d, e1, dd, dw, da, dl⟩ := astep_local h1
  obtain ⟨g, e2, gd, gw, ga, gl⟩ := astep_local h2
  have mf := memFree_spec i3 dw da
  have mg := memFree_spec i4 gw ga
  have sx : ∀ t, x.dst = some t → t ∉ looks ops y ∧ y.dst ≠ some t := fun t ht => by
    simp only [dstFree, ht, Bool.and_eq_true] at i1; simpa using i1
  have sy : ∀ t, y.dst = some t → t ∉ looks ops x ∧ x.dst ≠ some t := fun t ht => by
    simp only [dstFree, ht, Bool.and_eq_true] at i2; simpa using i2
  have a1 : Agree ops y st2.foot st1.st s :=
    { slots := fun t ht => by rw [e1, app_slots_other (by rw [dd]; intro e; exact (sx t e).1 ht)]
      rd := fun n hn => by rw [e1, app_mem_other (fun h => (mf n (.inl h)).1 hn) (fun h => (mf n (.inr h)).1 hn)]
      al := fun n hn => by rw [e1, app_mem_other (fun h => (mf n (.inl h)).2 hn) (fun h => (mf n (.inr h)).2 hn)] }
  have a2 : Agree ops x st1.foot s (g.app s) :=
    { slots := fun t ht => app_slots_other (by rw [gd]; intro e; exact (sy t e).1 ht)
      rd := fun n hn => app_mem_other (fun h => (mg n (.inl h)).1 hn) (fun h => (mg n (.inr h)).1 hn)
      al := fun n hn => app_mem_other (fun h => (mg n (.inl h)).2 hn) (fun h => (mg n (.inr h)).2 hn) }
  refine ⟨_, _, gl s a1, rfl, rfl, dl _ a2, rfl, rfl, ?_⟩
  rw [e2, e1]
  simp only [Delta.app]
  congr 1
  · simp only [AState.put, dd, gd]
    cases hx : x.dst with
    | none => cases y.dst <;> rfl
    | some a =>
      cases hy : y.dst with
      | none => rfl
      | some b =>
        simp only
        exact List.set_comm _ _ (by rintro rfl; exact (sx _ hx).2 hy)
  · have m1 : ∀ n, n ∈ d.wn ∨ n ∈ d.an → n ∉ g.wn ∧ n ∉ g.an := fun n hn => ⟨fun h => (mf n hn).1 (gw n h).1, fun h => (mf n hn).2 (ga ▸ h)⟩
    have eg : ∀ m, setMem (setMem m g.wn g.wo) g.an g.ao = setMem (setMem m g.wn g.wo) g.an g.ao := fun _ => rfl
    have c1 : ∀ m, setMem (setMem (setMem m d.an d.ao) g.wn g.wo) g.an g.ao = setMem (setMem (setMem m g.wn g.wo) g.an g.ao) d.an d.ao := fun m => by
      rw [setMem_comm (fun n hn => (m1 n (.inr hn)).1), setMem_comm (fun n hn => (m1 n (.inr hn)).2)]
    have c2 : ∀ m, setMem (setMem (setMem m d.wn d.wo) g.wn g.wo) g.an g.ao = setMem (setMem (setMem m g.wn g.wo) g.an g.ao) d.wn d.wo := fun m => by
      rw [setMem_comm (fun n hn => (m1 n (.inl hn)).1), setMem_comm (fun n hn => (m1 n (.inl hn)).2)]
    have p1 : ∀ (q : AState) (z : Option Tmp) (v : AV), (q.put z v).mem = q.mem := fun q z v => by cases z <;> rfl
    rw [c1, c2]

end Go.Proofs.YtanhlbdcjonaoaaDoor.Sx

/- The symbolic executor, part Q: regions are sound, in the text's order and in every other one. -/
set_option linter.unusedSimpArgs false
set_option linter.unusedVariables false
namespace Go.Proofs.YtanhlbdcjonaoaaDoor.Sx
open Go

variable {P : Program}

/-- Steps, one behind the other, each with the footprint that is noted for it. -/
inductive Runs (P : Program) (ops : Array Oper) (hint : Nat → Hint) (LG : Nat → Foot) : List Nat → AState → AState → Prop
  | nil (s : AState) : Runs P ops hint LG [] s s
  | cons {i : Nat} {o : Oper} {st : Step} {R : List Nat} {s s' : AState} (ho : ops[i]? = some o) (hs : astep P ops (hint i) o s = some st) (hob : AllP st.obl) (hf : st.foot = LG i) (r : Runs P ops hint LG R st.st s') : Runs P ops hint LG (i :: R) s s'

variable {ops : Array Oper} {hint : Nat → Hint} {LG : Nat → Foot}

def indepI (ops : Array Oper) (LG : Nat → Foot) (k i : Nat) : Bool :=
  match ops[k]?, ops[i]? with
  | some x, some y => indepB ops x y (LG k) (LG i)
  | _, _ => false

theorem runs_front {i : Nat} {post : List Nat} {s' : AState} : ∀ (pre : List Nat) (s : AState), Runs P ops hint LG (pre ++ i :: post) s s' → (∀ k ∈ pre, indepI ops LG k i = true) → Runs P ops hint LG (i :: (pre ++ post)) s s'
  | [], s, h, _ => h
  | k :: pre, s, h, hi => by
    cases h with
    | cons ho hs hob hf r =>
      have r' := runs_front pre _ r (fun j hj => hi j (by simp [hj]))
      cases r' with
      | cons ho2 hs2 hob2 hf2 r2 =>
        have hind := hi k (by simp)
        simp only [indepI, ho, ho2] at hind
        rw [← hf, ← hf2] at hind
        obtain ⟨st1, st2, a1, a2, a3, a4, a5, a6, a7⟩ := astep_comm hs hs2 hind
        refine .cons ho2 a1 (a2 ▸ hob2) (a3.trans hf2) (.cons ho a4 (a5 ▸ hob) (a6.trans hf) ?_)
        rw [a7]; exact r2

theorem runs_text {w0 : World} {M : Nat → Prop} {Q : Exit → Act → World → Prop} {s' : AState} : ∀ (R : List Nat) (s : AState) (E : Env) (a : Act) (w : World), Runs P ops hint LG R s s' → Rel w0 M E s a w →
    (∀ E' a' w', Env.le E E' → Rel w0 M E' s' a' w' → Q .normal a' w') → wpOps P ops Q R a w
  | [], s, E, a, w, r, h, hq => by cases r; exact hq E a w (.refl _) h
  | i :: R, s, E, a, w, r, h, hq => by
    cases r with
    | cons ho hs hob hf r =>
      have hn : ∀ E' a' w', Env.le E E' → Rel w0 M E' _ a' w' → wpOps P ops Q R a' w' := fun E' a' w' hle h' => runs_text R _ E' a' w' r h' (fun E2 a2 w2 l2 h2 => hq E2 a2 w2 (hle.trans l2) h2)
      have := astep_sound (Q := Q) hs hob h hn
      rw [wpOps]
      simp only [ho]
      split
      · rename_i hw; rw [if_pos hw] at this; exact .inl this
      · rename_i hw; rw [if_neg hw] at this; exact this

/-- The operations that an edge of its own says an operation comes behind. -/
def direct (o : Oper) : List Nat := o.after.toList.filterMap fun e => if Region.binds .any e then some e.on else none

def directI (ops : Array Oper) (i : Nat) : List Nat := match ops[i]? with | some o => direct o | none => []

/-- All that it comes behind. -/
def ancs : List (List Nat) → List (List Nat) → List (List Nat)
  | [], acc => acc
  | d :: ds, acc => ancs ds (acc ++ [d ++ d.flatMap fun k => acc.getD k []])

def ancOK (ops : Array Oper) (A : List (List Nat)) : Bool :=
  (List.range ops.size).all fun i => (directI ops i).all (fun k => decide (k < i)) && (A.getD i []).all fun m => (directI ops i).contains m || (directI ops i).any fun k => (A.getD k []).contains m

def pairsOK (ops : Array Oper) (A : List (List Nat)) (LG : Nat → Foot) : Bool :=
  (List.range ops.size).all fun i => (List.range i).all fun k => (A.getD i []).contains k || indepI ops LG k i

theorem mem_ready {listed : Array Bool} {i : Nat} (h : i ∈ Region.ready .any ops listed) : i < ops.size ∧ listed.getD i true = false ∧ ∀ k ∈ directI ops i, listed.getD k false = true := by
  simp only [Region.ready, List.mem_filter, List.mem_range, Bool.and_eq_true, Bool.not_eq_true'] at h
  obtain ⟨h1, h2, h3⟩ := h
  refine ⟨h1, h2, fun k hk => ?_⟩
  have ho : ops[i]? = some ops[i] := by simp [h1]
  simp only [ho, Option.map_some, Option.getD_some] at h3
  simp only [directI, ho, direct, List.mem_filterMap] at hk
  obtain ⟨e, he, hb⟩ := hk
  split at hb
  · rename_i hbind
    cases hb
    have := (Array.all_eq_true'.1 h3) e (Array.mem_toList_iff.1 he)
    simpa [hbind] using this
  · cases hb

theorem ready_of {listed : Array Bool} {i : Nat} (h1 : i < ops.size) (h2 : listed.getD i true = false) (h3 : ∀ k ∈ directI ops i, listed.getD k false = true) : i ∈ Region.ready .any ops listed := by
  simp only [Region.ready, List.mem_filter, List.mem_range, Bool.and_eq_true, Bool.not_eq_true']
  refine ⟨h1, h2, ?_⟩
  have ho : ops[i]? = some ops[i] := by simp [h1]
  simp only [ho, Option.map_some, Option.getD_some]
  refine Array.all_eq_true'.2 fun e he => ?_
  cases hb : Region.binds .any e with
  | false => simp
  | true =>
    have := h3 e.on (by
      simp only [directI, ho, direct, List.mem_filterMap]
      exact ⟨e, Array.mem_toList_iff.2 he, by simp [hb]⟩)
    simpa using this

theorem getD_flip {listed : Array Bool} {k : Nat} (hk : k < listed.size) : (listed.getD k true = false ↔ ¬ listed.getD k false = true) := by
  simp [Array.getD, hk]

theorem runs_any {w0 : World} {M : Nat → Prop} {Q : Exit → Act → World → Prop} {s' : AState} {A : List (List Nat)} (hA : ancOK ops A = true) (hP : pairsOK ops A LG = true) :
    ∀ (fuel : Nat) (listed : Array Bool) (R : List Nat) (s : AState) (E : Env) (a : Act) (w : World), listed.size = ops.size → R.length ≤ fuel → R.Pairwise (· < ·) → (∀ i, i ∈ R ↔ i < ops.size ∧ listed.getD i true = false) →
      (∀ i, i < ops.size → listed.getD i false = true → ∀ k ∈ A.getD i [], listed.getD k false = true) → Runs P ops hint LG R s s' → Rel w0 M E s a w → (∀ E' a' w', Env.le E E' → Rel w0 M E' s' a' w' → Q .normal a' w') →
      wpAny P .any ops Q fuel listed a w := by
  have hA' : ∀ i, i < ops.size → (∀ k ∈ directI ops i, k < i) ∧ ∀ m ∈ A.getD i [], m ∈ directI ops i ∨ ∃ k ∈ directI ops i, m ∈ A.getD k [] := fun i hi => by
    have := List.all_eq_true.1 hA i (List.mem_range.2 hi)
    simp only [Bool.and_eq_true, List.all_eq_true, decide_eq_true_eq, Bool.or_eq_true, List.contains_eq_mem, List.any_eq_true] at this
    exact this
  have hP' : ∀ i, i < ops.size → ∀ k, k < i → k ∈ A.getD i [] ∨ indepI ops LG k i = true := fun i hi k hk => by
    have := List.all_eq_true.1 (List.all_eq_true.1 hP i (List.mem_range.2 hi)) k (List.mem_range.2 hk)
    simpa using this
  have rnil : ∀ (listed : Array Bool) (R : List Nat), listed.size = ops.size → R.Pairwise (· < ·) → (∀ i, i ∈ R ↔ i < ops.size ∧ listed.getD i true = false) → Region.ready .any ops listed = [] → R = [] := by
    intro listed R hsz hp hR hr
    cases R with
    | nil => rfl
    | cons i R =>
      exfalso
      obtain ⟨h1, h2⟩ := (hR i).1 (by simp)
      have : i ∈ Region.ready .any ops listed := ready_of h1 h2 fun k hk => by
        have hki := (hA' i h1).1 k hk
        cases hb : listed.getD k false with
        | true => rfl
        | false =>
          exfalso
          have hkR := (hR k).2 ⟨by omega, (getD_flip (by omega)).2 (by simp [hb])⟩
          rcases List.mem_cons.1 hkR with e | e
          · omega
          · have := (List.pairwise_cons.1 hp).1 k e; omega
      rw [hr] at this; cases this
  intro fuel
  induction fuel with
  | zero =>
    intro listed R s E a w hsz hlen hp hR hcl r h hq
    have : R = [] := List.length_eq_zero_iff.1 (by omega)
    subst this
    cases r
    refine ⟨?_, hq E a w (.refl _) h⟩
    cases hr : Region.ready .any ops listed with
    | nil => rfl
    | cons i l =>
      obtain ⟨h1, h2, _⟩ := mem_ready (ops := ops) (listed := listed) (i := i) (by rw [hr]; simp)
      exact absurd ((hR i).2 ⟨h1, h2⟩) (by simp)
  | succ fuel ih =>
    intro listed R s E a w hsz hlen hp hR hcl r h hq
    refine ⟨fun hr => ?_, fun i hi => ?_⟩
    · have := rnil listed R hsz hp hR hr
      subst this
      cases r
      exact hq E a w (.refl _) h
    · obtain ⟨h1, h2, h3⟩ := mem_ready hi
      have hanc : ∀ m ∈ A.getD i [], listed.getD m false = true := fun m hm => by
        rcases (hA' i h1).2 m hm with g | ⟨k, hk, g⟩
        · exact h3 m g
        · exact hcl k (by have := (hA' i h1).1 k hk; omega) (h3 k hk) m g
      obtain ⟨pre, post, rfl⟩ := List.append_of_mem ((hR i).2 ⟨h1, h2⟩)
      have hpre : ∀ k ∈ pre, indepI ops LG k i = true := fun k hk => by
        have hlt : k < i := (List.pairwise_append.1 hp).2.2 k hk i (by simp)
        rcases hP' i h1 k hlt with g | g
        · exfalso
          have := hanc k g
          obtain ⟨_, hk2⟩ := (hR k).1 (by simp [hk])
          exact (getD_flip (by omega)).1 hk2 this
        · exact g
      have r' := runs_front pre s r hpre
      cases r' with
      | cons ho hs hob hf r2 =>
        have hsz' : (listed.setIfInBounds i true).size = ops.size := by simpa using hsz
        have hnd : (pre ++ i :: post).Nodup := hp.imp (fun h => Nat.ne_of_lt h)
        have hp2 : (pre ++ post).Pairwise (· < ·) := hp.sublist (by simp)
        have hset : ∀ k d, (listed.setIfInBounds i true).getD k d = if k = i then true else listed.getD k d := fun k d => by
          by_cases e : k = i
          · subst e; simp [Array.getD, hsz, h1]
          · rw [if_neg e, getD_set_ne d (fun h => e h.symm)]
        have hR2 : ∀ k, k ∈ pre ++ post ↔ k < ops.size ∧ (listed.setIfInBounds i true).getD k true = false := fun k => by
          rw [hset]
          by_cases e : k = i
          · subst e
            simp only [if_true]
            constructor
            · intro hk
              exfalso
              rw [List.nodup_append] at hnd
              rcases List.mem_append.1 hk with g | g
              · exact hnd.2.2 k g k (by simp) rfl
              · exact (List.nodup_cons.1 hnd.2.1).1 g
            · rintro ⟨_, hh⟩; cases hh
          · rw [if_neg e, ← hR k]
            simp [e]
        have hcl2 : ∀ j, j < ops.size → (listed.setIfInBounds i true).getD j false = true → ∀ k ∈ A.getD j [], (listed.setIfInBounds i true).getD k false = true := fun j hj hl k hk => by
          rw [hset] at hl ⊢
          by_cases ek : k = i
          · simp [ek]
          · rw [if_neg ek]
            by_cases ej : j = i
            · subst ej; exact hanc k hk
            · rw [if_neg ej] at hl; exact hcl j hj hl k hk
        have hn : ∀ E' a' w', Env.le E E' → Rel w0 M E' _ a' w' → wpAny P .any ops Q fuel (listed.setIfInBounds i true) a' w' := fun E' a' w' hle h' =>
          ih _ (pre ++ post) _ E' a' w' hsz' (by simp at hlen ⊢; omega) hp2 hR2 hcl2 r2 h' (fun E2 a2 w2 l2 h2 => hq E2 a2 w2 (hle.trans l2) h2)
        have := astep_sound (Q := Q) hs hob h hn
        unfold wpOp
        simp only [ho]
        split
        · rename_i hw; rw [if_pos hw] at this; exact .inl this
        · rename_i hw; rw [if_neg hw] at this; exact this

theorem region_text {w0 : World} {M : Nat → Prop} {Q : Exit → Act → World → Prop} {s s' : AState} {E : Env} {a : Act} {w : World} {id : Nat} (r : Runs P ops hint LG (List.range ops.size) s s') (h : Rel w0 M E s a w)
    (hq : ∀ E' a' w', Env.le E E' → Rel w0 M E' s' a' w' → Q .normal a' w') : (Code.region id ops false).wp P Q a w :=
  wp_region (runs_text _ s E a w r h hq)

theorem region_draw {w0 : World} {M : Nat → Prop} {Q : Exit → Act → World → Prop} {s s' : AState} {E : Env} {a : Act} {w : World} {id : Nat} {A : List (List Nat)} (hm : P.follows .mixedOrders = true) (hA : ancOK ops A = true) (hP : pairsOK ops A LG = true)
    (r : Runs P ops hint LG (List.range ops.size) s s') (h : Rel w0 M E s a w) (hq : ∀ E' a' w', Env.le E E' → Rel w0 M E' s' a' w' → Q .normal a' w') : (Code.region id ops true).wp P Q a w :=
  wp_region_any hm (runs_any hA hP ops.size _ (List.range ops.size) s E a _ (by simp) (by simp) List.pairwise_lt_range (fun i => by
      rw [List.mem_range]
      constructor
      · intro hi; exact ⟨hi, by simp [Array.getD, hi]⟩
      · exact fun hh => hh.1)
    (fun i hi hl => by simp [Array.getD, hi] at hl) r (h.drew _) hq)

end Go.Proofs.YtanhlbdcjonaoaaDoor.Sx

/- The symbolic executor, part R: code, loops, and contracts out of runs. -/
set_option linter.unusedSimpArgs false
set_option linter.unusedVariables false
namespace Go.Proofs.YtanhlbdcjonaoaaDoor.Sx
open Go

variable {P : Program}

/-- How a piece of code is left. -/
inductive Ex where
  | normal
  | exit (id : Nat)
  | ret

def Ex.to : Ex → Exit
  | .normal => .normal
  | .exit id => .exit id
  | .ret => .ret

/-- The first K names keep their blocks. -/
def Env.leK (K : Nat) (E E' : Env) : Prop := ∀ n p, n < K → E n = some p → E' n = some p
theorem Env.leK.refl (K : Nat) (E : Env) : Env.leK K E E := fun _ _ _ h => h
theorem Env.leK.trans {K : Nat} {A B C : Env} (h : Env.leK K A B) (k : Env.leK K B C) : Env.leK K A C := fun n p hn e => k n p hn (h n p hn e)
theorem Env.le.toK {K : Nat} {A B : Env} (h : Env.le A B) : Env.leK K A B := fun n p _ e => h n p e

/-- FROM STATE s THE CODE c COMES TO STATE s', and is left as ex says. -/
def Tri (P : Program) (c : Code) (s : AState) (ex : Ex) (s' : AState) (K : Nat := 0) : Prop :=
  ∀ (w0 : World) (M : Nat → Prop) (E : Env) (a : Act) (w : World), Rel w0 M E s a w → c.wp P (fun e a' w' => e = ex.to ∧ ∃ E', Env.leK K E E' ∧ Rel w0 M E' s' a' w') a w

/-- What is told in the order of the text: of each region its hints; of each loop the state at its head, how it is left, and the state behind it. -/
inductive Orc where
  | reg (hs : List (Nat × Hint))
  | loop (sIn : AState) (ex : Ex) (sOut : AState)

def hintOf (hs : List (Nat × Hint)) (i : Nat) : Hint := (hs.lookup i).getD {}

def runOps (P : Program) (ops : Array Oper) (hint : Nat → Hint) : List Nat → AState → Option (List Prop × List Foot × AState)
  | [], s => some ([], [], s)
  | i :: R, s =>
    match ops[i]? with
    | none => none
    | some o =>
      match astep P ops (hint i) o s with
      | none => none
      | some st =>
        match runOps P ops hint R st.st with
        | none => none
        | some (ob, fs, s') => some (st.obl ++ ob, st.foot :: fs, s')

def orderOK (P : Program) (ops : Array Oper) (fs : List Foot) : Bool :=
  let A := ancs (ops.toList.map direct) []
  P.follows .mixedOrders && ancOK ops A && pairsOK ops A (fun i => fs.getD i .no)

/-- A state told as another one that says less. -/
def weakSlots : List (Option AV) → List (Option AV) → Option (List Prop)
  | [], [] => some []
  | _ :: as, none :: bs => weakSlots as bs
  | some a :: as, some b :: bs => (weakSlots as bs).map fun o => (a = b) :: o
  | _, _ => none

/-- What is known of a block is told the same, or (of one that is never written) of its first cells alone. -/
def sameF : AObj → AObj → Prop
  | .flat m c, .flat m' cs => m = m' ∧ c.take cs.length = cs
  | a, b => a = b
theorem sameF_cases {a b : AObj} (h : sameF a b) : a = b ∨ ∃ m c cs, a = .flat m c ∧ b = .flat m cs ∧ c.take cs.length = cs := by
  cases a with
  | flat m c =>
    cases b with
    | flat m' cs => obtain ⟨rfl, h⟩ := h; exact .inr ⟨_, _, _, rfl, rfl, h⟩
    | cells x t => exact .inl h
    | vec x t z => exact .inl h
    | ro x t => exact .inl h
    | iter x t => exact .inl h
    | shut x t z => exact .inl h
    | dead => exact .inl h
  | cells x t => exact .inl h
  | vec x t z => exact .inl h
  | ro x t => exact .inl h
  | iter x t => exact .inl h
  | shut x t z => exact .inl h
  | dead => exact .inl h
theorem sameF_obj {a b : AObj} (h : sameF a b) {E : Env} {w : World} {k : Nat} {c : Cap} (ho : ObjR E w k c a) : ObjR E w k c b := by
  rcases sameF_cases h with rfl | ⟨m, l, cs, rfl, rfl, e⟩
  · exact ho
  · obtain ⟨xs, hx, hz, hw⟩ := ho
    refine ⟨xs.take cs.length, ?_, fun h0 => ?_, fun h0 => ⟨(hw h0).1, fun i x hi => ?_⟩⟩
    · have := denC_take hx cs.length; rwa [e] at this
    · rw [hz h0] at e; simpa using e.symm
    · refine (hw h0).2 i x ?_
      have hlt := (List.getElem?_eq_some_iff.1 hi).1
      rw [List.getElem?_take] at hi
      split at hi
      · exact hi
      · cases hi
theorem sameF_owned {a b : AObj} (h : sameF a b) : b.owned = a.owned := by
  rcases sameF_cases h with rfl | ⟨m, l, cs, rfl, rfl, e⟩ <;> rfl
theorem sameF_mine {a b : AObj} (h : sameF a b) : b.mine = a.mine := by
  rcases sameF_cases h with rfl | ⟨m, l, cs, rfl, rfl, e⟩ <;> rfl
theorem sameF_live {a b : AObj} (h : sameF a b) : b.live = a.live := by
  rcases sameF_cases h with rfl | ⟨m, l, cs, rfl, rfl, e⟩ <;> rfl
theorem sameF_touches' {a b : AObj} (h : sameF a b) {k j : Nat} {c : Cap} (ht : touches k c b j) : touches k c a j := by
  rcases sameF_cases h with rfl | ⟨m, l, cs, rfl, rfl, e⟩ <;> exact ht

def weakMem : List (Option AObj) → List (Option AObj) → Option (List Prop)
  | [], [] => some []
  | none :: as, none :: bs => weakMem as bs
  | some _ :: as, some .dead :: bs => weakMem as bs
  | some a :: as, some b :: bs => (weakMem as bs).map fun o => sameF a b :: o
  | _, _ => none

def weakA (s t : AState) : Option (List Prop) :=
  match weakSlots s.slots t.slots, weakMem s.mem t.mem with
  | some a, some b => some (a ++ b)
  | _, _ => none

structure Out where
  obl : List Prop
  ex : Ex
  st : AState
  rest : List Orc

def exec (P : Program) (K : Nat) : Code → List Orc → AState → Option Out
  | .skip, q, s => some ⟨[], .normal, s, q⟩
  | .label _, q, s => some ⟨[], .normal, s, q⟩
  | .ret, q, s => some ⟨[], .ret, s, q⟩
  | .exit id, q, s => some ⟨[], .exit id, s, q⟩
  | .region _ ops draw, .reg hs :: q, s =>
    match runOps P ops (hintOf hs) (List.range ops.size) s with
    | some (ob, fs, s') => if !draw || orderOK P ops fs then some ⟨ob, .normal, s', q⟩ else none
    | none => none
  | .seq x y, q, s =>
    match exec P K x q s with
    | some ⟨ob, .normal, s', q'⟩ =>
      match exec P K y q' s' with
      | some ⟨ob2, ex, s2, q2⟩ => some ⟨ob ++ ob2, ex, s2, q2⟩
      | none => none
    | r => r
  | .cond c x y, q, s =>
    match s.ev c with
    | some (.bool true) => exec P K x q s
    | some (.bool false) => exec P K y q s
    | _ => none
  | .block id x, q, s =>
    match exec P K x q s with
    | some ⟨ob, .exit j, s', q'⟩ => some ⟨ob, if j == id then .normal else .exit j, s', q'⟩
    | r => r
  | .loop x, .loop sIn ex sOut :: q, s =>
    match weakA s sIn with
    | some ob => some ⟨ob ++ [Tri P (.loop x) sIn ex sOut K], ex, sOut, q⟩
    | none => none
  | _, _, _ => none

theorem runs_of_runOps {ops : Array Oper} {hint : Nat → Hint} : ∀ (R : List Nat) (s : AState) (ob : List Prop) (fs : List Foot) (s' : AState) (LG : Nat → Foot), runOps P ops hint R s = some (ob, fs, s') → AllP ob → (∀ j : Nat, (fs[j]?) = (R[j]?).map LG) → Runs P ops hint LG R s s'
  | [], s, ob, fs, s', LG, h, _, _ => by simp [runOps] at h; obtain ⟨_, _, rfl⟩ := h; exact .nil s
  | i :: R, s, ob, fs, s', LG, h, hob, hf => by
    simp only [runOps] at h
    split at h
    · cases h
    · rename_i o ho
      split at h
      · cases h
      · rename_i st hst
        split at h
        · cases h
        · rename_i ob2 fs2 s2 h2
          cases h
          obtain ⟨k1, k2⟩ := allP_append.1 hob
          have h0 := hf 0
          simp at h0
          exact .cons ho hst k1 h0 (runs_of_runOps R _ _ _ _ LG h2 k2 fun j => by have := hf (j + 1); simpa using this)

theorem runOps_length {ops : Array Oper} {hint : Nat → Hint} : ∀ (R : List Nat) (s : AState) (ob : List Prop) (fs : List Foot) (s' : AState), runOps P ops hint R s = some (ob, fs, s') → fs.length = R.length
  | [], s, ob, fs, s', h => by simp [runOps] at h; obtain ⟨_, rfl, _⟩ := h; rfl
  | i :: R, s, ob, fs, s', h => by
    simp only [runOps] at h
    split at h
    · cases h
    · split at h
      · cases h
      · split at h
        · cases h
        · rename_i ob2 fs2 s2 h2
          cases h
          simp [runOps_length R _ _ _ _ h2]

theorem weakSlots_get : ∀ (as bs : List (Option AV)) (ob : List Prop), weakSlots as bs = some ob → AllP ob → as.length = bs.length ∧ ∀ (t : Nat) (v : AV), bs[t]? = some (some v) → as[t]? = some (some v)
  | [], [], _, _, _ => ⟨rfl, fun t v h => by simp at h⟩
  | [], _ :: _, _, h, _ => by simp [weakSlots] at h
  | _ :: _, [], _, h, _ => by simp [weakSlots] at h
  | a :: as, none :: bs, ob, h, hob => by
    have h' : weakSlots as bs = some ob := by cases a <;> simpa [weakSlots] using h
    obtain ⟨h1, h2⟩ := weakSlots_get as bs ob h' hob
    refine ⟨by simp [h1], fun t v ht => ?_⟩
    cases t with
    | zero => simp at ht
    | succ t => simpa using h2 t v (by simpa using ht)
  | none :: as, some b :: bs, ob, h, _ => by simp [weakSlots] at h
  | some a :: as, some b :: bs, ob, h, hob => by
    simp only [weakSlots, Option.map_eq_some_iff] at h
    obtain ⟨o, ho, rfl⟩ := h
    obtain ⟨k1, k2⟩ := hob
    have k1 : a = b := k1
    obtain ⟨h1, h2⟩ := weakSlots_get as bs o ho k2
    refine ⟨by simp [h1], fun t v ht => ?_⟩
    cases t with
    | zero => simp at ht ⊢; rw [k1]; exact ht
    | succ t => simpa using h2 t v (by simpa using ht)

theorem weakMem_get : ∀ (as bs : List (Option AObj)) (ob : List Prop), weakMem as bs = some ob → AllP ob → as.length = bs.length ∧ (∀ n : Nat, bs[n]? = some none → as[n]? = some none) ∧ ∀ (n : Nat) (o : AObj), bs[n]? = some (some o) → ∃ o', as[n]? = some (some o') ∧ (o = .dead ∨ sameF o' o)
  | [], [], _, _, _ => ⟨rfl, fun n h => by simp at h, fun n o h => by simp at h⟩
  | [], _ :: _, _, h, _ => by simp [weakMem] at h
  | _ :: _, [], _, h, _ => by simp [weakMem] at h
  | none :: as, none :: bs, ob, h, hob => by
    obtain ⟨h1, h2, h3⟩ := weakMem_get as bs ob (by simpa [weakMem] using h) hob
    refine ⟨by simp [h1], fun n hn => ?_, fun n o hn => ?_⟩
    · cases n with
      | zero => simp
      | succ n => simpa using h2 n (by simpa using hn)
    · cases n with
      | zero => simp at hn
      | succ n => simpa using h3 n o (by simpa using hn)
  | none :: as, some b :: bs, ob, h, _ => by simp [weakMem] at h
  | some a :: as, none :: bs, ob, h, _ => by simp [weakMem] at h
  | some a :: as, some b :: bs, ob, h, hob => by
    by_cases hd : b = .dead
    · subst hd
      obtain ⟨h1, h2, h3⟩ := weakMem_get as bs ob (by simpa [weakMem] using h) hob
      refine ⟨by simp [h1], fun n hn => ?_, fun n o hn => ?_⟩
      · cases n with
        | zero => simp at hn
        | succ n => simpa using h2 n (by simpa using hn)
      · cases n with
        | zero => simp at hn; exact ⟨a, by simp, .inl hn.symm⟩
        | succ n => simpa using h3 n o (by simpa using hn)
    · have h' : ∃ o, weakMem as bs = some o ∧ ob = sameF a b :: o := by
        cases b <;> first
          | exact absurd rfl hd
          | (simp only [weakMem, Option.map_eq_some_iff] at h; obtain ⟨o, ho, e⟩ := h; exact ⟨o, ho, e.symm⟩)
      obtain ⟨o, ho, rfl⟩ := h'
      obtain ⟨k1, k2⟩ := hob
      have k1 : sameF a b := k1
      obtain ⟨h1, h2, h3⟩ := weakMem_get as bs o ho k2
      refine ⟨by simp [h1], fun n hn => ?_, fun n o hn => ?_⟩
      · cases n with
        | zero => simp at hn
        | succ n => simpa using h2 n (by simpa using hn)
      · cases n with
        | zero => simp at hn; exact ⟨a, by simp, .inr (hn ▸ k1)⟩
        | succ n => simpa using h3 n o (by simpa using hn)

theorem Rel.weak {w0 w : World} {M : Nat → Prop} {E : Env} {s t : AState} {a : Act} {ob : List Prop} (h : Rel w0 M E s a w) (hw : weakA s t = some ob) (hob : AllP ob) : Rel w0 M E t a w := by
  unfold weakA at hw
  split at hw
  · rename_i o1 o2 h1 h2
    cases hw
    obtain ⟨k1, k2⟩ := allP_append.1 hob
    obtain ⟨l1, g1⟩ := weakSlots_get _ _ _ h1 k1
    obtain ⟨l2, g2, g3⟩ := weakMem_get _ _ _ h2 k2
    exact { h with
      size := h.size.trans l1
      slots := fun t v ht => h.slots t v (g1 t v ht)
      fresh := fun n hn => h.fresh n (g2 n hn)
      mem := fun n o hn => by
        obtain ⟨o', ho', hor⟩ := g3 n o hn
        obtain ⟨b, c, hE, hob, hM⟩ := h.mem n o' ho'
        rcases hor with rfl | hs
        · exact ⟨b, c, hE, trivial, fun e => by cases e⟩
        · exact ⟨b, c, hE, sameF_obj hs hob, fun e ht => hM (by rw [← sameF_mine hs]; exact e) (sameF_touches' hs ht)⟩
      apart := fun n m o o2 b c b' c' hn hm ho ho2 e1 e2 hne => by
        obtain ⟨x, hx, hor⟩ := g3 n o hn
        obtain ⟨y, hy, hor2⟩ := g3 m o2 hm
        rcases hor with rfl | hs
        · cases ho
        · rcases hor2 with rfl | hs2
          · cases ho2
          · exact fun ht => h.apart n m x y b c b' c' hx hy (by rw [← sameF_owned hs]; exact ho) (by rw [← sameF_live hs2]; exact ho2) e1 e2 hne (sameF_touches' hs2 ht) }
  · cases hw

theorem wp_block_ex {c : Code} {id : Nat} {Q : Exit → Act → World → Prop} {a : Act} {w : World} (h : c.wp P (Exit.inBlock id Q) a w) : (Code.block id c).wp P Q a w := wp_block h

/-- A RUN IS SOUND. -/
theorem exec_sound {K : Nat} : ∀ (c : Code) (q : List Orc) (s : AState) (r : Out), exec P K c q s = some r → AllP r.obl → Tri P c s r.ex r.st K
  | .skip, q, s, r, h, hob => by
    simp [exec] at h; subst h
    exact fun w0 M E a w hR => wp_skip ⟨rfl, E, .refl _ _, hR⟩
  | .label l, q, s, r, h, hob => by
    simp [exec] at h; subst h
    exact fun w0 M E a w hR => wp_label ⟨rfl, E, .refl _ _, hR⟩
  | .ret, q, s, r, h, hob => by
    simp [exec] at h; subst h
    exact fun w0 M E a w hR => wp_ret ⟨rfl, E, .refl _ _, hR⟩
  | .exit id, q, s, r, h, hob => by
    simp [exec] at h; subst h
    exact fun w0 M E a w hR => wp_exit ⟨rfl, E, .refl _ _, hR⟩
  | .region id ops draw, q, s, r, h, hob => by
    cases q with
    | nil => simp [exec] at h
    | cons o q =>
      cases o with
      | loop _ _ _ => simp [exec] at h
      | reg hs =>
        simp only [exec] at h
        split at h
        · rename_i ob fs s' hr
          split at h
          · rename_i hd
            cases h
            intro w0 M E a w hR
            have hlen := runOps_length _ _ _ _ _ hr
            have runs := runs_of_runOps (LG := fun i => fs.getD i .no) _ _ _ _ _ hr hob (fun j => by
              by_cases hj : j < ops.size
              · have hj' : j < fs.length := by simpa [hlen] using hj
                simp [hj, hj', List.getD]
              · have hj' : ¬ j < fs.length := by simpa [hlen] using hj
                rw [List.getElem?_eq_none (by omega), List.getElem?_eq_none (by simp; omega)]; rfl)
            cases draw with
            | false => exact region_text runs hR fun E' a' w' hle h' => ⟨rfl, E', hle.toK, h'⟩
            | true =>
              simp only [Bool.not_true, Bool.false_or, orderOK, Bool.and_eq_true] at hd
              exact region_draw hd.1.1 hd.1.2 hd.2 runs hR fun E' a' w' hle h' => ⟨rfl, E', hle.toK, h'⟩
          · cases h
        · cases h
  | .seq x y, q, s, r, h, hob => by
    simp only [exec] at h
    split at h
    · rename_i ob s' q' hx
      split at h
      · rename_i ob2 ex s2 q2 hy
        cases h
        obtain ⟨k1, k2⟩ := allP_append.1 hob
        have t1 := exec_sound x q s _ hx k1
        have t2 := exec_sound y q' s' _ hy k2
        intro w0 M E a w hR
        refine wp_seq (wp_mono (t1 w0 M E a w hR) ?_)
        rintro e a' w' ⟨rfl, E', hle, h'⟩
        refine wp_mono (t2 w0 M E' a' w' h') ?_
        rintro e2 a2 w2 ⟨rfl, E2, hle2, h2⟩
        exact ⟨rfl, E2, hle.trans hle2, h2⟩
      · cases h
    · rename_i hx
      have t1 := exec_sound x q s _ h hob
      intro w0 M E a w hR
      refine wp_seq (wp_mono (t1 w0 M E a w hR) ?_)
      rintro e a' w' ⟨rfl, E', hle, h'⟩
      obtain ⟨ob, ex, s', q'⟩ := r
      cases ex with
      | normal => exact absurd h (hx ob s' q')
      | exit id => exact ⟨rfl, E', hle, h'⟩
      | ret => exact ⟨rfl, E', hle, h'⟩
  | .cond c x y, q, s, r, h, hob => by
    simp only [exec] at h
    split at h
    · rename_i hc
      intro w0 M E a w hR
      have := hR.ev hc
      exact wp_cond_true (by simpa [den] using this.symm) (exec_sound x q s r h hob w0 M E a w hR)
    · rename_i hc
      intro w0 M E a w hR
      have := hR.ev hc
      exact wp_cond_false (by simpa [den] using this.symm) (exec_sound y q s r h hob w0 M E a w hR)
    · cases h
  | .block id x, q, s, r, h, hob => by
    simp only [exec] at h
    split at h
    · rename_i ob j s' q' hx
      cases h
      have t1 := exec_sound x q s _ hx hob
      intro w0 M E a w hR
      refine wp_block (wp_mono (t1 w0 M E a w hR) ?_)
      rintro e a' w' ⟨rfl, E', hle, h'⟩
      simp only [Ex.to, Exit.inBlock]
      by_cases hj : j = id
      · simp only [hj, if_true, beq_self_eq_true]; exact ⟨trivial, E', hle, h'⟩
      · have hj' : (j == id) = false := by simpa using hj
        simp only [hj, if_false, hj', Bool.false_eq_true]; exact ⟨trivial, E', hle, h'⟩
    · rename_i hx
      have t1 := exec_sound x q s _ h hob
      intro w0 M E a w hR
      refine wp_block (wp_mono (t1 w0 M E a w hR) ?_)
      rintro e a' w' ⟨rfl, E', hle, h'⟩
      obtain ⟨ob, ex, s', q'⟩ := r
      cases ex with
      | normal => exact ⟨rfl, E', hle, h'⟩
      | exit j => exact absurd h (hx ob j s' q')
      | ret => exact ⟨rfl, E', hle, h'⟩
  | .loop x, q, s, r, h, hob => by
    cases q with
    | nil => simp [exec] at h
    | cons o q =>
      cases o with
      | reg _ => simp [exec] at h
      | loop sIn ex sOut =>
        simp only [exec] at h
        split at h
        · rename_i ob hw
          cases h
          obtain ⟨k1, k2, _⟩ := allP_append.1 hob |>.imp id id
          exact fun w0 M E a w hR => k2 w0 M E a w (hR.weak hw k1)
        · cases h
  | .rangeFunc _ _ _ _, q, s, r, h, hob => by simp [exec] at h
  | .scope _, q, s, r, h, hob => by simp [exec] at h
  | .goto _, q, s, r, h, hob => by simp [exec] at h
  | .refuse _, q, s, r, h, hob => by simp [exec] at h

end Go.Proofs.YtanhlbdcjonaoaaDoor.Sx

/- The symbolic executor, part S: loops by their rounds, and contracts out of runs. -/
set_option linter.unusedSimpArgs false
set_option linter.unusedVariables false
namespace Go.Proofs.YtanhlbdcjonaoaaDoor.Sx
open Go

variable {P : Program}

/-- Names that are forgotten. -/
def Env.drop (E : Env) (D : Nat → Bool) : Env := fun n => if D n then none else E n

def Avoid (D : Nat → Bool) (v : AV) : Prop := ∀ (E : Env) (x : Value), den E v = some x → den (E.drop D) v = some x
def AvoidL (D : Nat → Bool) (vs : List AV) : Prop := ∀ (E : Env) (xs : List Value), denL E vs = some xs → denL (E.drop D) vs = some xs
def AvoidO (D : Nat → Bool) (o : AObj) : Prop := ∀ (E : Env) (w : World) (b : Nat) (c : Cap), ObjR E w b c o → ObjR (E.drop D) w b c o

theorem AvoidL.nil (D : Nat → Bool) : AvoidL D [] := fun _ _ h => h
theorem AvoidL.cons {D : Nat → Bool} {v : AV} {vs : List AV} (h : Avoid D v) (k : AvoidL D vs) : AvoidL D (v :: vs) := fun E xs e => by
  obtain ⟨x, ys, hx, hy, rfl⟩ := denL_cons.1 e
  exact denL_cons.2 ⟨x, ys, h E x hx, k E ys hy, rfl⟩
theorem denL_append_inv {E : Env} : ∀ {vs us : List AV} {zs : List Value}, denL E (vs ++ us) = some zs → ∃ xs ys, denL E vs = some xs ∧ denL E us = some ys ∧ zs = xs ++ ys
  | [], us, zs, h => ⟨[], zs, rfl, h, rfl⟩
  | v :: vs, us, zs, h => by
    simp only [List.cons_append] at h
    obtain ⟨x, ys, hx, hy, rfl⟩ := denL_cons.1 h
    obtain ⟨as, bs, ha, hb, rfl⟩ := denL_append_inv hy
    exact ⟨x :: as, bs, denL_cons.2 ⟨x, as, hx, ha, rfl⟩, hb, rfl⟩
theorem AvoidL.append {D : Nat → Bool} {vs us : List AV} (h : AvoidL D vs) (k : AvoidL D us) : AvoidL D (vs ++ us) := fun E zs e => by
  obtain ⟨xs, ys, hx, hy, rfl⟩ := denL_append_inv e
  exact denL_append (h E xs hx) (k E ys hy)
theorem Avoid.bool (D : Nat → Bool) (b : Bool) : Avoid D (.bool b) := fun _ _ h => h
theorem Avoid.int (D : Nat → Bool) (k : IntKind) (n : Int) : Avoid D (.int k n) := fun _ _ h => h
theorem Avoid.str (D : Nat → Bool) (s : List UInt8) : Avoid D (.str s) := fun _ _ h => h
theorem Avoid.nilptr (D : Nat → Bool) : Avoid D .nilptr := fun _ _ h => h
theorem Avoid.nilslice (D : Nat → Bool) : Avoid D .nilslice := fun _ _ h => h
theorem Avoid.nilfunc (D : Nat → Bool) : Avoid D .nilfunc := fun _ _ h => h
theorem Avoid.niliface (D : Nat → Bool) : Avoid D .niliface := fun _ _ h => h
theorem drop_some {E : Env} {D : Nat → Bool} {n : Nat} (h : D n = false) : E.drop D n = E n := by simp [Env.drop, h]
theorem Avoid.ptr {D : Nat → Bool} {nm off : Nat} (h : D nm = false) : Avoid D (.ptr nm off) := fun E x e => by simpa only [den, drop_some h] using e
theorem Avoid.slice {D : Nat → Bool} {nm off l c : Nat} (h : D nm = false) : Avoid D (.slice nm off l c) := fun E x e => by simpa only [den, drop_some h] using e
theorem Avoid.vec {D : Nat → Bool} {nm l : Nat} (h : D nm = false) : Avoid D (.vec nm l) := fun E x e => by simpa only [den, drop_some h] using e
theorem Avoid.dsl {D : Nat → Bool} {nm l : Nat} (h : D nm = false) : Avoid D (.dsl nm l) := fun E x e => by simpa only [den, drop_some h] using e
theorem Avoid.dptr {D : Nat → Bool} {nm l : Nat} (h : D nm = false) : Avoid D (.dptr nm l) := fun E x e => by simpa only [den, drop_some h] using e
theorem Avoid.agg {D : Nat → Bool} {cs : List AV} (h : AvoidL D cs) : Avoid D (.agg cs) := fun E x e => by
  obtain ⟨xs, hx, rfl⟩ := denC_agg.1 e
  exact denC_agg.2 ⟨xs, ⟨h E xs hx.1, hx.2⟩, rfl⟩
theorem Avoid.tuple {D : Nat → Bool} {cs : List AV} (h : AvoidL D cs) : Avoid D (.tuple cs) := fun E x e => by
  simp only [den, Option.map_eq_some_iff] at e ⊢
  obtain ⟨xs, hx, rfl⟩ := e; exact ⟨xs, h E xs hx, rfl⟩
theorem AvoidL.all {D : Nat → Bool} : ∀ {vs : List AV}, (∀ v ∈ vs, Avoid D v) → AvoidL D vs
  | [], _ => .nil D
  | v :: vs, h => .cons (h v (by simp)) (AvoidL.all fun u hu => h u (by simp [hu]))
theorem AvoidL.u8s (D : Nat → Bool) (s : List UInt8) : AvoidL D (u8s s) := AvoidL.all fun v hv => by
  simp only [Sx.u8s, List.mem_map] at hv; obtain ⟨b, _, rfl⟩ := hv; exact .int _ _ _
/-- Whole numbers, as cells. -/
def ints (k : IntKind) (l : List Int) : List AV := l.map (.int k)
theorem AvoidL.ints (D : Nat → Bool) (k : IntKind) (l : List Int) : AvoidL D (ints k l) := AvoidL.all fun v hv => by
  simp only [Sx.ints, List.mem_map] at hv; obtain ⟨b, _, rfl⟩ := hv; exact .int _ _ _
theorem AvoidO.cells {D : Nat → Bool} {cs : List AV} {t : TypeId} (h : AvoidL D cs) : AvoidO D (.cells cs t) := fun E w b c ⟨xs, hx, hw⟩ => ⟨xs, ⟨h E xs hx.1, hx.2⟩, hw⟩
theorem AvoidO.vec {D : Nat → Bool} {cs : List AV} {t : TypeId} {sz : Nat} (h : AvoidL D cs) : AvoidO D (.vec cs t sz) := fun E w b c ⟨xs, ys, hx, hw⟩ => ⟨xs, ys, ⟨h E xs hx.1, hx.2⟩, hw⟩
theorem AvoidO.ro {D : Nat → Bool} {cs : List AV} {off : Nat} (h : AvoidL D cs) : AvoidO D (.ro off cs) := fun E w b c ⟨xs, hx, hw⟩ => ⟨xs, ⟨h E xs hx.1, hx.2⟩, hw⟩
theorem AvoidO.flat {D : Nat → Bool} {m : Bool} {cs : List AV} (h : AvoidL D cs) : AvoidO D (.flat m cs) := fun E w b c ⟨xs, hx, hw⟩ => ⟨xs, ⟨h E xs hx.1, hx.2⟩, hw⟩
theorem AvoidO.shut {D : Nat → Bool} {cs : List AV} {t : TypeId} {sz : Nat} (h : AvoidL D cs) : AvoidO D (.shut cs t sz) := fun E w b c ⟨xs, ys, hx, hw⟩ => ⟨xs, ys, ⟨h E xs hx.1, hx.2⟩, hw⟩
theorem AvoidO.iter (D : Nat → Bool) (s : List UInt8) (p : Nat) : AvoidO D (.iter s p) := fun _ _ _ _ h => h
theorem AvoidO.dead (D : Nat → Bool) : AvoidO D .dead := fun _ _ _ _ h => h

/-- What is to be shown so that a value does not name what is forgotten. -/
def avoidA (D : Nat → Bool) : AV → List Prop
  | .bool _ | .int _ _ | .str _ | .nilptr | .nilslice | .nilfunc | .niliface => []
  | .ptr nm _ | .slice nm _ _ _ | .vec nm _ | .dsl nm _ | .dptr nm _ => if D nm then [False] else []
  | v => [Avoid D v]

theorem avoidA_spec {D : Nat → Bool} {v : AV} (h : AllP (avoidA D v)) : Avoid D v := by
  cases v <;> simp only [avoidA] at h <;> first
    | exact .bool _ _ | exact .int _ _ _ | exact .str _ _ | exact .nilptr _ | exact .nilslice _ | exact .nilfunc _ | exact .niliface _
    | (split at h
       · exact h.1.elim
       · rename_i hd; first | exact .ptr (by simpa using hd) | exact .slice (by simpa using hd) | exact .vec (by simpa using hd) | exact .dsl (by simpa using hd) | exact .dptr (by simpa using hd))
    | exact h.1

def dropSlots (D : Nat → Bool) : List (Option AV) → List (Option AV) → Option (List Prop)
  | [], [] => some []
  | _ :: as, none :: bs => dropSlots D as bs
  | some a :: as, some b :: bs => (dropSlots D as bs).map fun o => (a = b) :: (avoidA D b ++ o)
  | _, _ => none

def avoidO (D : Nat → Bool) : AObj → List Prop
  | .dead => []
  | .iter _ _ => []
  | o => [AvoidO D o]

theorem avoidO_spec {D : Nat → Bool} {o : AObj} (h : AllP (avoidO D o)) : AvoidO D o := by
  cases o <;> first | exact .dead _ | exact .iter _ _ _ | exact h.1

def dropMem (D : Nat → Bool) : Nat → List (Option AObj) → List (Option AObj) → Option (List Prop)
  | _, [], [] => some []
  | i, none :: as, none :: bs => dropMem D (i + 1) as bs
  | i, some _ :: as, none :: bs => if D i then dropMem D (i + 1) as bs else none
  | i, some _ :: as, some .dead :: bs => if D i then none else dropMem D (i + 1) as bs
  | i, some a :: as, some b :: bs => if D i then none else (dropMem D (i + 1) as bs).map fun o => sameF a b :: (avoidO D b ++ o)
  | _, _, _ => none

def dropA (D : Nat → Bool) (s t : AState) : Option (List Prop) :=
  match dropSlots D s.slots t.slots, dropMem D 0 s.mem t.mem with
  | some a, some b => some (a ++ b)
  | _, _ => none

theorem dropSlots_get {D : Nat → Bool} : ∀ (as bs : List (Option AV)) (ob : List Prop), dropSlots D as bs = some ob → AllP ob → as.length = bs.length ∧ ∀ (t : Nat) (v : AV), bs[t]? = some (some v) → as[t]? = some (some v) ∧ Avoid D v
  | [], [], _, _, _ => ⟨rfl, fun t v h => by simp at h⟩
  | [], _ :: _, _, h, _ => by simp [dropSlots] at h
  | _ :: _, [], _, h, _ => by simp [dropSlots] at h
  | a :: as, none :: bs, ob, h, hob => by
    have h' : dropSlots D as bs = some ob := by cases a <;> simpa [dropSlots] using h
    obtain ⟨h1, h2⟩ := dropSlots_get as bs ob h' hob
    refine ⟨by simp [h1], fun t v ht => ?_⟩
    cases t with
    | zero => simp at ht
    | succ t => simpa using h2 t v (by simpa using ht)
  | none :: as, some b :: bs, ob, h, _ => by simp [dropSlots] at h
  | some a :: as, some b :: bs, ob, h, hob => by
    simp only [dropSlots, Option.map_eq_some_iff] at h
    obtain ⟨o, ho, rfl⟩ := h
    obtain ⟨k1, k2⟩ := hob
    have k1 : a = b := k1
    obtain ⟨k2, k3⟩ := allP_append.1 k2
    obtain ⟨h1, h2⟩ := dropSlots_get as bs o ho k3
    refine ⟨by simp [h1], fun t v ht => ?_⟩
    cases t with
    | zero => simp at ht ⊢; rw [k1]; exact ⟨ht, ht ▸ avoidA_spec k2⟩
    | succ t => simpa using h2 t v (by simpa using ht)

theorem dropMem_get {D : Nat → Bool} : ∀ (as bs : List (Option AObj)) (i : Nat) (ob : List Prop), dropMem D i as bs = some ob → AllP ob → as.length = bs.length ∧ (∀ n : Nat, bs[n]? = some none → as[n]? = some none ∨ D (i + n) = true) ∧
    ∀ (n : Nat) (o : AObj), bs[n]? = some (some o) → D (i + n) = false ∧ ∃ o', as[n]? = some (some o') ∧ (o = .dead ∨ (sameF o' o ∧ AvoidO D o))
  | [], [], _, _, _, _ => ⟨rfl, fun n h => by simp at h, fun n o h => by simp at h⟩
  | [], _ :: _, _, _, h, _ => by simp [dropMem] at h
  | _ :: _, [], _, _, h, _ => by simp [dropMem] at h
  | none :: as, none :: bs, i, ob, h, hob => by
    obtain ⟨h1, h2, h3⟩ := dropMem_get as bs (i + 1) ob (by simpa [dropMem] using h) hob
    refine ⟨by simp [h1], fun n hn => ?_, fun n o hn => ?_⟩
    · cases n with
      | zero => simp
      | succ n => have := h2 n (by simpa using hn); rw [show i + (n + 1) = i + 1 + n by omega]; simpa using this
    · cases n with
      | zero => simp at hn
      | succ n => have := h3 n o (by simpa using hn); rw [show i + (n + 1) = i + 1 + n by omega]; simpa using this
  | none :: as, some b :: bs, i, ob, h, _ => by simp [dropMem] at h
  | some a :: as, none :: bs, i, ob, h, hob => by
    simp only [dropMem] at h
    split at h
    · rename_i hd
      obtain ⟨h1, h2, h3⟩ := dropMem_get as bs (i + 1) ob h hob
      refine ⟨by simp [h1], fun n hn => ?_, fun n o hn => ?_⟩
      · cases n with
        | zero => exact .inr hd
        | succ n => have := h2 n (by simpa using hn); rw [show i + (n + 1) = i + 1 + n by omega]; simpa using this
      · cases n with
        | zero => simp at hn
        | succ n => have := h3 n o (by simpa using hn); rw [show i + (n + 1) = i + 1 + n by omega]; simpa using this
    · cases h
  | some a :: as, some b :: bs, i, ob, h, hob => by
    have key : D i = false ∧ ∃ o, dropMem D (i + 1) as bs = some o ∧ AllP o ∧ (b = .dead ∨ (sameF a b ∧ AvoidO D b)) := by
      by_cases hd : b = .dead
      · subst hd
        simp only [dropMem] at h
        split at h
        · cases h
        · rename_i hdi; exact ⟨by simpa using hdi, ob, h, hob, .inl rfl⟩
      · have h' : D i = false ∧ ∃ o, dropMem D (i + 1) as bs = some o ∧ ob = sameF a b :: (avoidO D b ++ o) := by
          cases b <;> first
            | exact absurd rfl hd
            | (simp only [dropMem] at h
               split at h
               · cases h
               · rename_i hdi
                 simp only [Option.map_eq_some_iff] at h; obtain ⟨o, ho, e⟩ := h; exact ⟨by simpa using hdi, o, ho, e.symm⟩)
        obtain ⟨hdi, o, ho, rfl⟩ := h'
        obtain ⟨k1, k2⟩ := hob
        obtain ⟨k2, k3⟩ := allP_append.1 k2
        exact ⟨hdi, o, ho, k3, .inr ⟨k1, avoidO_spec k2⟩⟩
    obtain ⟨hdi, o, ho, k3, hor⟩ := key
    obtain ⟨h1, h2, h3⟩ := dropMem_get as bs (i + 1) o ho k3
    refine ⟨by simp [h1], fun n hn => ?_, fun n o' hn => ?_⟩
    · cases n with
      | zero => simp at hn
      | succ n => have := h2 n (by simpa using hn); rw [show i + (n + 1) = i + 1 + n by omega]; simpa using this
    · cases n with
      | zero =>
        simp at hn; subst hn
        refine ⟨hdi, a, by simp, ?_⟩
        rcases hor with g | ⟨g1, g2⟩
        · exact .inl g
        · exact .inr ⟨g1, g2⟩
      | succ n => have := h3 n o' (by simpa using hn); rw [show i + (n + 1) = i + 1 + n by omega]; simpa using this

theorem Rel.drop {w0 w : World} {M : Nat → Prop} {E : Env} {D : Nat → Bool} {s t : AState} {a : Act} {ob : List Prop} (h : Rel w0 M E s a w) (hw : dropA D s t = some ob) (hob : AllP ob) : Rel w0 M (E.drop D) t a w := by
  unfold dropA at hw
  split at hw
  · rename_i o1 o2 h1 h2
    cases hw
    obtain ⟨k1, k2⟩ := allP_append.1 hob
    obtain ⟨l1, g1⟩ := dropSlots_get _ _ _ h1 k1
    obtain ⟨l2, g2, g3⟩ := dropMem_get _ _ _ _ h2 k2
    simp only [Nat.zero_add] at g2 g3
    have back : ∀ n p, E.drop D n = some p → E n = some p := fun n p hp => by
      simp only [Env.drop] at hp; split at hp
      · cases hp
      · exact hp
    exact { h with
      size := h.size.trans l1
      slots := fun t v ht => by
        obtain ⟨e1, e2⟩ := g1 t v ht
        obtain ⟨x, hx, hd⟩ := h.slots t v e1
        exact ⟨x, hx, e2 E x hd⟩
      fresh := fun n hn => by
        rcases g2 n hn with e | e
        · simp only [Env.drop, h.fresh n e]; split <;> rfl
        · simp [Env.drop, e]
      mem := fun n o hn => by
        obtain ⟨hD, o', ho', hor⟩ := g3 n o hn
        obtain ⟨b, c, hE, hob, hM⟩ := h.mem n o' ho'
        refine ⟨b, c, by rw [drop_some hD]; exact hE, ?_⟩
        rcases hor with rfl | ⟨hs, hav⟩
        · exact ⟨trivial, fun e => by cases e⟩
        · exact ⟨hav E w b c (sameF_obj hs hob), fun e ht => hM (by rw [← sameF_mine hs]; exact e) (sameF_touches' hs ht)⟩
      apart := fun n m o o2 b c b' c' hn hm ho ho2 e1 e2 hne => by
        obtain ⟨_, x, hx, hor⟩ := g3 n o hn
        obtain ⟨_, y, hy, hor2⟩ := g3 m o2 hm
        rcases hor with rfl | ⟨hs, _⟩
        · cases ho
        · rcases hor2 with rfl | ⟨hs2, _⟩
          · cases ho2
          · exact fun ht => h.apart n m x y b c b' c' hx hy (by rw [← sameF_owned hs]; exact ho) (by rw [← sameF_live hs2]; exact ho2) (back _ _ e1) (back _ _ e2) hne (sameF_touches' hs2 ht) }
  · cases hw

/-- What is known at a round's end, told as the next round's head, without the names that the round made. -/
theorem Tri.next {c : Code} {s s' t : AState} {ex : Ex} {D : Nat → Bool} {ob : List Prop} {K : Nat} (h : Tri P c s ex s' K) (hw : dropA D s' t = some ob) (hob : AllP ob) (hD : ∀ n, D n = true → s.mem[n]? = some none) : Tri P c s ex t K := by
  intro w0 M E a w hR
  refine wp_mono (h w0 M E a w hR) ?_
  rintro e a' w' ⟨rfl, E', hle, h'⟩
  refine ⟨rfl, E'.drop D, fun n p hK hn => ?_, h'.drop hw hob⟩
  have : D n = false := by
    cases hd : D n with
    | false => rfl
    | true => rw [hR.fresh n (hD n hd)] at hn; cases hn
  rw [drop_some this]; exact hle n p hK hn

/-! ### other names -/
def renSlots (r : List Nat) : List (Option AV) → List (Option AV) → Option (List Prop)
  | [], [] => some []
  | _ :: as, none :: bs => renSlots r as bs
  | some a :: as, some b :: bs => (renSlots r as bs).map fun o => (a = b.ren r) :: o
  | _, _ => none

/-- Name i of the new telling is name r[i] of the old one. -/
def renMem (r : List Nat) (mem : List (Option AObj)) : List Nat → List (Option AObj) → Option (List Prop)
  | [], bs => if bs.all (·.isNone) then some [] else none
  | _ :: ns, some .dead :: bs => renMem r mem ns bs
  | n :: ns, some b :: bs =>
    match mem[n]? with
    | some (some a) => (renMem r mem ns bs).map fun o => sameF a (b.ren r) :: o
    | _ => none
  | _, _ => none

def renA (r : List Nat) (K : Nat) (s t : AState) : Option (List Prop) :=
  if r.Nodup && (r.all fun n => match s.mem[n]? with | some (some _) => true | _ => false) && ((List.range K).all fun n => r[n]? == some n) then
    match renSlots r s.slots t.slots, renMem r s.mem r t.mem with
    | some a, some b => some (a ++ b)
    | _, _ => none
  else none

theorem renSlots_get {r : List Nat} : ∀ (as bs : List (Option AV)) (ob : List Prop), renSlots r as bs = some ob → AllP ob → as.length = bs.length ∧ ∀ (t : Nat) (v : AV), bs[t]? = some (some v) → as[t]? = some (some (v.ren r))
  | [], [], _, _, _ => ⟨rfl, fun t v h => by simp at h⟩
  | [], _ :: _, _, h, _ => by simp [renSlots] at h
  | _ :: _, [], _, h, _ => by simp [renSlots] at h
  | a :: as, none :: bs, ob, h, hob => by
    obtain ⟨h1, h2⟩ := renSlots_get as bs ob (by simpa [renSlots] using h) hob
    refine ⟨by simp [h1], fun t v ht => ?_⟩
    cases t with
    | zero => simp at ht
    | succ t => simpa using h2 t v (by simpa using ht)
  | none :: as, some b :: bs, ob, h, _ => by simp [renSlots] at h
  | some a :: as, some b :: bs, ob, h, hob => by
    simp only [renSlots, Option.map_eq_some_iff] at h
    obtain ⟨o, ho, rfl⟩ := h
    obtain ⟨k1, k2⟩ := hob
    have k1 : a = b.ren r := k1
    obtain ⟨h1, h2⟩ := renSlots_get as bs o ho k2
    refine ⟨by simp [h1], fun t v ht => ?_⟩
    cases t with
    | zero => simp at ht ⊢; rw [k1, ht]
    | succ t => simpa using h2 t v (by simpa using ht)

theorem renMem_get {r : List Nat} {mem : List (Option AObj)} : ∀ (ns : List Nat) (bs : List (Option AObj)) (ob : List Prop), renMem r mem ns bs = some ob → AllP ob →
    ∀ (i : Nat) (o : Option AObj), bs[i]? = some o → (o = none ∧ ns.length ≤ i) ∨ ∃ b n, o = some b ∧ ns[i]? = some n ∧ (b = .dead ∨ ∃ a, mem[n]? = some (some a) ∧ sameF a (b.ren r))
  | [], bs, ob, h, hob, i, o, hi => by
    simp only [renMem] at h
    split at h
    · rename_i hall
      have := List.all_eq_true.1 hall o (List.mem_of_getElem? hi)
      exact .inl ⟨by simpa using this, Nat.zero_le _⟩
    · cases h
  | n :: ns, [], ob, h, _, i, o, hi => by simp at hi
  | n :: ns, none :: bs, ob, h, _, i, o, hi => by simp [renMem] at h
  | n :: ns, some b :: bs, ob, h, hob, i, o, hi => by
    have key : ∃ o2, renMem r mem ns bs = some o2 ∧ AllP o2 ∧ (b = .dead ∨ ∃ a, mem[n]? = some (some a) ∧ sameF a (b.ren r)) := by
      by_cases hd : b = .dead
      · subst hd; exact ⟨ob, by simpa [renMem] using h, hob, .inl rfl⟩
      · have h' : ∃ a, mem[n]? = some (some a) ∧ ∃ o2, renMem r mem ns bs = some o2 ∧ ob = sameF a (b.ren r) :: o2 := by
          cases b <;> first
            | exact absurd rfl hd
            | (simp only [renMem] at h
               split at h
               · rename_i a ha
                 simp only [Option.map_eq_some_iff] at h; obtain ⟨o2, ho, e⟩ := h; exact ⟨a, ha, o2, ho, e.symm⟩
               · cases h)
        obtain ⟨a, ha, o2, ho, rfl⟩ := h'
        obtain ⟨k1, k2⟩ := hob
        have k1 : sameF a (b.ren r) := k1
        exact ⟨o2, ho, k2, .inr ⟨a, ha, k1⟩⟩
    obtain ⟨o2, ho, k2, hor⟩ := key
    cases i with
    | zero => simp at hi; exact .inr ⟨b, n, hi.symm, by simp, hor⟩
    | succ i =>
      rcases renMem_get ns bs o2 ho k2 i o (by simpa using hi) with ⟨h1, h2⟩ | ⟨b', n', h1, h2, h3⟩
      · exact .inl ⟨h1, by simp; omega⟩
      · exact .inr ⟨b', n', h1, by simpa using h2, h3⟩

theorem Rel.ren {w0 w : World} {M : Nat → Prop} {E : Env} {r : List Nat} {K : Nat} {s t : AState} {a : Act} {ob : List Prop} (h : Rel w0 M E s a w) (hw : renA r K s t = some ob) (hob : AllP ob) :
    Rel w0 M (fun i : Nat => (r[i]?).bind E) t a w ∧ ∀ n, n < K → r[n]? = some n := by
  unfold renA at hw
  split at hw
  · rename_i hc
    simp only [Bool.and_eq_true, decide_eq_true_eq] at hc
    obtain ⟨⟨hnd, hall⟩, hK⟩ := hc
    split at hw
    · rename_i o1 o2 h1 h2
      cases hw
      obtain ⟨k1, k2⟩ := allP_append.1 hob
      obtain ⟨l1, g1⟩ := renSlots_get _ _ _ h1 k1
      have g2 := renMem_get _ _ _ h2 k2
      have hEnv : ∀ (i m : Nat) (p : Nat × Cap), r[i]? = some m → E m = some p → (fun i : Nat => (r[i]?).bind E) i = some p := fun i m p hi hm => by
        show (r[i]?).bind E = some p
        rw [hi]; exact hm
      have named : ∀ (i m : Nat), r[i]? = some m → ∃ o, s.mem[m]? = some (some o) := fun i m hi => by
        have := List.all_eq_true.1 hall m (List.mem_of_getElem? hi)
        split at this
        · rename_i o ho; exact ⟨o, ho⟩
        · cases this
      have back : ∀ (i : Nat) (p : Nat × Cap), (r[i]?).bind E = some p → ∃ m, r[i]? = some m ∧ E m = some p := fun i p hi => Option.bind_eq_some_iff.1 hi
      refine ⟨?_, fun n hn => ?_⟩
      · exact {
          size := h.size.trans l1
          slots := fun t v ht => by
            obtain ⟨x, hx, hd⟩ := h.slots t _ (g1 t v ht)
            exact ⟨x, hx, ren_den hEnv v x hd⟩
          defers := h.defers
          fresh := fun n hn => by
            rcases g2 n none hn with ⟨_, hl⟩ | ⟨b, m, hb, _⟩
            · simp [List.getElem?_eq_none hl]
            · cases hb
          mem := fun n o hn => by
            rcases g2 n (some o) hn with ⟨hb, _⟩ | ⟨b, m, hb, hm, hor⟩
            · cases hb
            · cases hb
              rcases hor with rfl | ⟨a', hs, hsf⟩
              · obtain ⟨o', ho'⟩ := named n m hm
                obtain ⟨b, c, hE, _⟩ := h.mem m o' ho'
                exact ⟨b, c, by simp [hm, hE], trivial, fun e => by cases e⟩
              · obtain ⟨b, c, hE, hob', hown⟩ := h.mem m _ hs
                exact ⟨b, c, by simp [hm, hE], ObjR.unren hEnv (sameF_obj hsf hob'), fun e ht => hown (by rw [← sameF_mine hsf, AObj.ren_mine]; exact e) (sameF_touches' hsf (touches_ren' ht))⟩
          apart := fun n m o o' b c b' c' hn hm ho ho' e1 e2 hne => by
            obtain ⟨n', hn', e1'⟩ := back _ _ e1
            obtain ⟨m', hm', e2'⟩ := back _ _ e2
            have hne' : n' ≠ m' := by
              rintro rfl
              obtain ⟨l1, r1⟩ := List.getElem?_eq_some_iff.1 hn'
              obtain ⟨l2, r2⟩ := List.getElem?_eq_some_iff.1 hm'
              exact hne ((List.getElem_inj hnd).1 (r1.trans r2.symm))
            rcases g2 n _ hn with ⟨hb, _⟩ | ⟨p, i, hb, hi, hor⟩
            · cases hb
            · cases hb
              rw [hn'] at hi; cases hi
              rcases hor with rfl | ⟨a1, hs, hsf⟩
              · cases ho
              · rcases g2 m _ hm with ⟨hb, _⟩ | ⟨p', i', hb, hi', hor'⟩
                · cases hb
                · cases hb
                  rw [hm'] at hi'; cases hi'
                  rcases hor' with rfl | ⟨a2, hs', hsf'⟩
                  · cases ho'
                  · exact fun ht => h.apart n' m' _ _ b c b' c' hs hs' (by rw [← sameF_owned hsf, AObj.ren_owned]; exact ho) (by rw [← sameF_live hsf', AObj.ren_live]; exact ho') e1' e2' hne' (sameF_touches' hsf' (touches_ren' ht))
          frame := h.frame, grow := h.grow, os := h.os, tape := h.tape, output := h.output, glob := h.glob }
      · have := List.all_eq_true.1 hK n (List.mem_range.2 hn)
        simpa using this
    · cases hw
  · cases hw

/-- What is known at the end, told with other names: name i is what name r[i] was. -/
theorem Tri.ren {c : Code} {s s' t : AState} {ex : Ex} (r : List Nat) {ob : List Prop} {K : Nat} (h : Tri P c s ex s' K) (hw : renA r K s' t = some ob) (hob : AllP ob) : Tri P c s ex t K := by
  intro w0 M E a w hR
  refine wp_mono (h w0 M E a w hR) ?_
  rintro e a' w' ⟨rfl, E', hle, h'⟩
  obtain ⟨h1, h2⟩ := h'.ren hw hob
  exact ⟨rfl, _, fun n p hn hE => by simp [h2 n hn, hle n p hn hE], h1⟩

theorem Tri.weak {c : Code} {s s' t : AState} {ex : Ex} {ob : List Prop} {K : Nat} (h : Tri P c s ex s' K) (hw : weakA s' t = some ob) (hob : AllP ob) : Tri P c s ex t K := by
  intro w0 M E a w hR
  refine wp_mono (h w0 M E a w hR) ?_
  rintro e a' w' ⟨rfl, E', hle, h'⟩
  exact ⟨rfl, E', hle, h'.weak hw hob⟩

/-- A LOOP: each round comes to the next round's head, or leaves as the loop is left. -/
theorem tri_loop {ι : Type} {body : Code} (inv : ι → AState) (μ : ι → Nat) {ex : Ex} {out : AState} {K : Nat} (hex : ex ≠ .normal)
    (step : ∀ i, (∃ j, μ j < μ i ∧ Tri P body (inv i) .normal (inv j) K) ∨ Tri P body (inv i) ex out K) (i : ι) : Tri P (.loop body) (inv i) ex out K := by
  intro w0 M E a w hR
  refine wp_loop_rounds (μ i + 1) ?_
  have key : ∀ (n : Nat) (i : ι) (E1 : Env) (a1 : Act) (w1 : World), μ i < n → Env.leK K E E1 → Rel w0 M E1 (inv i) a1 w1 →
      Code.rounds P body (fun e a' w' => e = ex.to ∧ ∃ E', Env.leK K E E' ∧ Rel w0 M E' out a' w') n a1 w1 := by
    intro n
    induction n with
    | zero => intro i E1 a1 w1 hn; omega
    | succ n ih =>
      intro i E1 a1 w1 hn hle h1
      rw [rounds_succ]
      rcases step i with ⟨j, hj, ht⟩ | ht
      · refine wp_mono (ht w0 M E1 a1 w1 h1) ?_
        rintro e a' w' ⟨rfl, E', hle', h'⟩
        exact ih j E' a' w' (by omega) (hle.trans hle') h'
      · refine wp_mono (ht w0 M E1 a1 w1 h1) ?_
        rintro e a' w' ⟨rfl, E', hle', h'⟩
        cases ex with
        | normal => exact absurd rfl hex
        | exit id => exact ⟨rfl, E', hle.trans hle', h'⟩
        | ret => exact ⟨rfl, E', hle.trans hle', h'⟩
  exact key _ i E a w (Nat.lt_succ_self _) (.refl _ _) hR

end Go.Proofs.YtanhlbdcjonaoaaDoor.Sx

/- The symbolic executor, part T: contracts out of runs of bodies. -/
set_option linter.unusedSimpArgs false
set_option linter.unusedVariables false
namespace Go.Proofs.YtanhlbdcjonaoaaDoor.Sx
open Go

variable {P : Program}

/-- The state in which a call begins: 'k' names for new blocks. -/
def start (ntmps : Nat) (args : List AV) (pre : List AObj) (k : Nat) : AState :=
  ⟨args.map some ++ List.replicate (ntmps - args.length) none, pre.map (fun o => some o.lent) ++ List.replicate k none⟩

def resA (P : Program) (s : AState) : List ResultVar → List Hint → Option (List Prop × List AV)
  | [], _ => some ([], [])
  | .tmp t :: rs, hs =>
    match (s.slots[t]?).join, resA P s rs hs.tail with
    | some v, some (ob, vs) => some (ob, v :: vs)
    | _, _ => none
  | .cell a t :: rs, hs =>
    match (s.slots[a]?).join with
    | some (.ptr nm off) =>
      match s.mem[nm]? with
      | some (some o) =>
        match loadA P (hs.headD {}) t off o, resA P s rs hs.tail with
        | some r, some (ob, vs) => some (r.obl ++ ob, r.val :: vs)
        | _, _ => none
      | _ => none
    | _ => none

def one : List AV → AV
  | [v] => v
  | vs => .tuple vs

/-- A block is told as it is; one of a slice that is never written any more, as less. -/
def sameO (o : AObj) : AObj → Prop
  | .flat m cs => Fits o (.flat m cs)
  | p => o = p

def postA (D : Nat → Bool) (mem : List (Option AObj)) (npre : Nat) : Nat → List AObj → Option (List Prop)
  | _, [] => some []
  | i, .dead :: ps => match mem[i]? with
    | some (some _) => if i < npre then postA D mem npre (i + 1) ps else none
    | _ => none
  | i, p :: ps => match mem[i]? with
    | some (some o) => if i < npre || o.mine then (postA D mem npre (i + 1) ps).map fun ob => sameO o p :: (avoidO D p ++ ob) else none
    | _ => none

/-- The end of a body: the results, and the blocks that are told of. -/
def finA (P : Program) (rs : List ResultVar) (hs : List Hint) (s : AState) (npre : Nat) (res : AV) (post : List AObj) : Option (List Prop) :=
  let D := fun n => decide (post.length ≤ n)
  match resA P s rs hs, postA D s.mem npre 0 post with
  | some (ob, vs), some ob2 => if npre ≤ post.length then some (ob ++ (one vs = res) :: (avoidA D res ++ ob2)) else none
  | _, _ => none

theorem load_world {w w2 : World} {a : Addr} {v : Value} (h : (load a).run P w = .ok v w2) : w2 = w := by
  rw [run_load] at h
  split at h
  · cases h; rfl
  · split at h
    · cases h; rfl
    · cases h

theorem loadCells_world {a : Addr} : ∀ (n i : Nat) (acc : Array Value) (w w2 : World) (v : Array Value), (loadCellsFrom a i n acc).run P w = .ok v w2 → w2 = w
  | 0, i, acc, w, w2, v, h => by simp only [loadCellsFrom, Sem.run_pure] at h; cases h; rfl
  | n + 1, i, acc, w, w2, v, h => by
    simp only [loadCellsFrom, Sem.run_bind] at h
    cases hl : (load (a.add i)).run P w with
    | ok x w3 =>
      rw [hl] at h
      have := load_world hl
      subst this
      exact loadCells_world n (i + 1) _ _ _ _ h
    | halt hh w3 => rw [hl] at h; cases h

theorem loadVar_world {w w2 : World} {t : TypeId} {a : Addr} {v : Value} (h : (loadVar t a).run P w = .ok v w2) : w2 = w := by
  simp only [loadVar, Sem.run_bind] at h
  have hi : ∃ r, (isAgg t).run P w = r ∧ ∀ b w3, r = .ok b w3 → w3 = w := by
    refine ⟨_, rfl, fun b w3 hr => ?_⟩
    simp only [isAgg, underlying, Sem.run_bind, run_program, Result.andThen_ok] at hr
    split at hr
    · simp only [Sem.run_pure, Result.andThen_ok] at hr
      split at hr <;> (cases hr; rfl)
    · cases hr
  obtain ⟨r, hr, hw⟩ := hi
  rw [hr] at h
  cases r with
  | halt hh w3 => cases h
  | ok b w3 =>
    have := hw b w3 rfl
    subst this
    simp only [Result.andThen_ok] at h
    cases b with
    | true =>
      simp only [if_true, Sem.run_bind] at h
      cases hs : (sizeOf t).run P w3 with
      | halt hh w4 => rw [hs] at h; cases h
      | ok n w4 =>
        rw [hs] at h
        have hw4 : w4 = w3 := by
          simp only [sizeOf, typeInfo, Sem.run_bind, run_program, Result.andThen_ok] at hs
          split at hs
          · simp only [Sem.run_pure, Result.andThen_ok] at hs; cases hs; rfl
          · cases hs
        subst hw4
        simp only [Result.andThen_ok] at h
        cases hc : (loadCells a n).run P w4 with
        | halt hh w5 => rw [hc] at h; cases h
        | ok cs w5 =>
          rw [hc] at h
          simp only [Result.andThen_ok, Sem.run_pure] at h
          cases h
          exact loadCells_world n 0 _ _ _ _ hc
    | false =>
      simp only [Bool.false_eq_true, if_false] at h
      exact load_world h

theorem loadVar_run {E : Env} {w : World} {t : TypeId} {h : Hint} {nm off b : Nat} {c : Cap} {ob : AObj} {r : Res} (hb : E nm = some (b, c)) (hob : ObjR E w b c ob) (hr : loadA P h t off ob = some r) (k : AllP r.obl) :
    ∃ x, (loadVar t ⟨b, off, none⟩).run P w = .ok x w ∧ den E r.val = some x := by
  have hd : den E (.ptr nm off) = some (.pointer (some ⟨b, off, none⟩)) := by simp [den, hb]
  have hg := good_load' (P := P) (w := w) (o := ⟨none, .load t (.const (.pointer (some ⟨b, off, none⟩))), 0, "", #[], none⟩) (ρ := fun _ => .pointer (some ⟨b, off, none⟩)) rfl hd ⟨b, c, hb, hob⟩ hr k
  obtain ⟨x, w', E', hrun, hx, he⟩ := hg
  simp only [execOp, Instr.loadAt, Instr.sureAddr, Sem.run_bind, Sem.run_pure, Result.andThen_ok] at hrun
  have hE : E' = E := by funext n; exact he.only n (by simp)
  subst hE
  generalize hl : (loadVar t ⟨b, off, none⟩).run P w = lr at hrun
  cases lr with
  | ok v w2 =>
    simp only [Result.andThen_ok, Sem.run_pure] at hrun
    rcases hrun with hrun | ⟨hrun, _⟩
    · cases hrun
      have hw2 := loadVar_world hl
      subst hw2
      exact ⟨_, rfl, hx⟩
    · cases hrun
  | halt hh w2 => rcases hrun with hrun | ⟨hrun, _⟩ <;> cases hrun

end Go.Proofs.YtanhlbdcjonaoaaDoor.Sx

/- The symbolic executor, part U: contracts out of runs of bodies. -/
set_option linter.unusedSimpArgs false
set_option linter.unusedVariables false
namespace Go.Proofs.YtanhlbdcjonaoaaDoor.Sx
open Go

variable {P : Program}

theorem resA_run {w0 w : World} {M : Nat → Prop} {E : Env} {s : AState} {a : Act} (h : Rel w0 M E s a w) : ∀ (rs : List ResultVar) (hs : List Hint) (ob : List Prop) (vs : List AV), resA P s rs hs = some (ob, vs) → AllP ob →
    ∃ xs, denL E vs = some xs ∧ (rs.mapM fun | .tmp t => pure (a.tmps.getD t undef) | .cell p t => do loadVar t (← asAddr (a.tmps.getD p undef)) : Sem (List Value)).run P w = .ok xs w
  | [], hs, ob, vs, e, hob => by simp [resA] at e; obtain ⟨_, rfl⟩ := e; exact ⟨[], rfl, rfl⟩
  | .tmp t :: rs, hs, ob, vs, e, hob => by
    simp only [resA] at e
    split at e
    · rename_i v ob2 vs2 hv h2
      cases e
      obtain ⟨xs, hx, hr⟩ := resA_run h rs hs.tail _ _ h2 hob
      obtain ⟨x, hx1, hd⟩ := h.slots t v (by simpa using Option.join_eq_some_iff.1 hv)
      refine ⟨x :: xs, denL_cons.2 ⟨x, xs, hd, hx, rfl⟩, ?_⟩
      have hg : a.tmps.getD t undef = x := by simp [hx1]
      simp only [List.mapM_cons, Sem.run_bind, Sem.run_pure, Result.andThen_ok, hr, hg]
    · cases e
  | .cell p t :: rs, hs, ob, vs, e, hob => by
    simp only [resA] at e
    split at e
    · rename_i nm off hv
      split at e
      · rename_i o ho
        split at e
        · rename_i r ob2 vs2 hr1 h2
          cases e
          obtain ⟨k1, k2⟩ := allP_append.1 hob
          obtain ⟨xs, hx, hr⟩ := resA_run h rs hs.tail _ _ h2 k2
          obtain ⟨y, hy, hdy⟩ := h.slots p _ (by simpa using Option.join_eq_some_iff.1 hv)
          obtain ⟨b, c, hb, rfl⟩ := ptr_den hdy
          obtain ⟨b', c', hb', hobj, _⟩ := h.mem nm o ho
          rw [hb] at hb'; cases hb'
          obtain ⟨x, hlx, hdx⟩ := loadVar_run (P := P) hb hobj hr1 k1
          refine ⟨x :: xs, denL_cons.2 ⟨x, xs, hdx, hx, rfl⟩, ?_⟩
          have hg : a.tmps.getD p undef = .pointer (some ⟨b, off, none⟩) := by simp [hy]
          have ha : (asAddr (.pointer (some ⟨b, off, none⟩))).run P w = .ok ⟨b, off, none⟩ w := rfl
          simp only [List.mapM_cons, Sem.run_bind, hg, ha, Sem.run_pure, Result.andThen_ok, hlx, hr]
        · cases e
      · cases e
    · cases e

theorem results_run {w0 w : World} {M : Nat → Prop} {E : Env} {s : AState} {a : Act} {fn : Func} (h : Rel w0 M E s a w) {hs : List Hint} {ob : List Prop} {vs : List AV} (e : resA P s fn.results.toList hs = some (ob, vs)) (hob : AllP ob) :
    ∃ x, (results fn a.tmps).run P w = .ok x w ∧ den E (one vs) = some x := by
  obtain ⟨xs, hx, hr⟩ := resA_run h _ _ _ _ e hob
  have hm : (fn.results.mapM fun | .tmp t => pure (a.tmps.getD t undef) | .cell p t => do loadVar t (← asAddr (a.tmps.getD p undef)) : Sem (Array Value)).run P w = .ok xs.toArray w := by
    generalize fn.results = rs at hr
    obtain ⟨l⟩ := rs
    rw [List.mapM_toArray]
    rw [Sem.run_map, hr]
    rfl
  refine ⟨if h : xs.toArray.size = 1 then xs.toArray[0] else .tuple xs.toArray, ?_, ?_⟩
  · simp only [results, Sem.run_bind]
    erw [hm]
    rfl
  · match vs, xs, hx with
    | [], xs, hx => simp [denL] at hx; subst hx; simp [one, den, denL]
    | [v], xs, hx =>
      obtain ⟨x, ys, h1, h2, rfl⟩ := denL_cons.1 hx
      simp [denL] at h2; subst h2; simpa [one] using h1
    | v :: u :: vs, xs, hx =>
      obtain ⟨x, ys, h1, h2, rfl⟩ := denL_cons.1 hx
      obtain ⟨y, zs, h3, h4, rfl⟩ := denL_cons.1 h2
      simp [one, den, hx]

theorem sameO_obj {o p : AObj} (h : sameO o p) {E : Env} {w : World} {b : Nat} {c : Cap} (k : ObjR E w b c o) : ObjR E w b c p := by
  cases p with
  | flat m cs => exact h E w b c k
  | cells a b => exact (show o = _ from h) ▸ k
  | vec a b c => exact (show o = _ from h) ▸ k
  | ro a b => exact (show o = _ from h) ▸ k
  | iter a b => exact (show o = _ from h) ▸ k
  | shut a b c => exact (show o = _ from h) ▸ k
  | dead => trivial
theorem sameO_touches {o p : AObj} (h : sameO o p) {b k : Nat} {c : Cap} (ht : touches b c p k) : touches b c o k := by
  cases p with
  | flat m cs => exact touches_of_flat rfl ht
  | cells a b => exact (show o = _ from h) ▸ ht
  | vec a b c => exact (show o = _ from h) ▸ ht
  | ro a b => exact (show o = _ from h) ▸ ht
  | iter a b => exact (show o = _ from h) ▸ ht
  | shut a b c => exact (show o = _ from h) ▸ ht
  | dead => exact (show o = _ from h) ▸ ht
theorem sameO_owned {o p : AObj} (h : sameO o p) (hp : p.owned = true) : o = p := by
  cases p <;> first | exact h | cases hp

theorem postA_get {D : Nat → Bool} {mem : List (Option AObj)} {npre : Nat} : ∀ (ps : List AObj) (i : Nat) (ob : List Prop), postA D mem npre i ps = some ob → AllP ob →
    ∀ (n : Nat) (p : AObj), ps[n]? = some p → ∃ o, mem[i + n]? = some (some o) ∧ ((p = .dead ∧ i + n < npre) ∨ (sameO o p ∧ AvoidO D p ∧ (i + n < npre ∨ o.mine = true)))
  | [], i, ob, _, _, n, p, hn => by simp at hn
  | q :: ps, i, ob, h, hob, n, p, hn => by
    have key : ∃ o ob2, mem[i]? = some (some o) ∧ postA D mem npre (i + 1) ps = some ob2 ∧ AllP ob2 ∧ ((q = .dead ∧ i < npre) ∨ (sameO o q ∧ AvoidO D q ∧ (i < npre ∨ o.mine = true))) := by
      by_cases hd : q = .dead
      · subst hd
        simp only [postA] at h
        split at h
        · rename_i o ho
          split at h
          · rename_i hi; exact ⟨o, ob, ho, h, hob, .inl ⟨rfl, hi⟩⟩
          · cases h
        · cases h
      · have h' : ∃ o ob2, mem[i]? = some (some o) ∧ (i < npre ∨ o.mine = true) ∧ postA D mem npre (i + 1) ps = some ob2 ∧ ob = sameO o q :: (avoidO D q ++ ob2) := by
          cases q <;> first
            | exact absurd rfl hd
            | (simp only [postA] at h
               split at h
               · rename_i o ho
                 split at h
                 · rename_i hi
                   simp only [Option.map_eq_some_iff] at h; obtain ⟨ob2, h2, e⟩ := h
                   exact ⟨o, ob2, ho, by simpa using hi, h2, e.symm⟩
                 · cases h
               · cases h)
        obtain ⟨o, ob2, ho, hi, h2, rfl⟩ := h'
        obtain ⟨k1, k2⟩ := hob
        have k1 : sameO o q := k1
        obtain ⟨k2, k3⟩ := allP_append.1 k2
        exact ⟨o, ob2, ho, h2, k3, .inr ⟨k1, avoidO_spec k2, hi⟩⟩
    obtain ⟨o, ob2, ho, h2, k3, hor⟩ := key
    cases n with
    | zero => simp at hn; subst hn; exact ⟨o, by simpa using ho, by simpa using hor⟩
    | succ n =>
      have := postA_get ps (i + 1) ob2 h2 k3 n p (by simpa using hn)
      rwa [show i + 1 + n = i + (n + 1) by omega] at this

theorem start_rel {w : World} {E : Env} {args : List AV} {xs : List Value} {pre : List AObj} {ntmps k : Nat} (hx : denL E args = some xs) (hp : PreR E w pre) :
    Rel w (fun b => ∃ (n : Nat) (o : AObj) (c : Cap), pre[n]? = some o ∧ o.owned = true ∧ E n = some (b, c)) E (start ntmps args pre k) { tmps := xs.toArray ++ Array.replicate (ntmps - xs.toArray.size) undef, defers := [] } w := by
  have hl := denL_length hx
  have slot : ∀ (t : Nat) (v : AV), (start ntmps args pre k).slots[t]? = some (some v) → args[t]? = some v := fun t v h => by
    simp only [start] at h
    by_cases ht : t < args.length
    · rw [List.getElem?_append_left (by simpa using ht)] at h; simpa using h
    · rw [List.getElem?_append_right (by simpa using ht)] at h
      rw [List.getElem?_replicate] at h; split at h <;> simp at h
  have memo : ∀ (n : Nat) (o : AObj), (start ntmps args pre k).mem[n]? = some (some o) → ∃ o0, pre[n]? = some o0 ∧ o = o0.lent := fun n o h => by
    simp only [start] at h
    by_cases ht : n < pre.length
    · rw [List.getElem?_append_left (by simpa using ht)] at h
      simp only [List.getElem?_map, Option.map_eq_some_iff] at h
      obtain ⟨o0, h0, e⟩ := h
      exact ⟨o0, h0, (Option.some.inj e).symm⟩
    · rw [List.getElem?_append_right (by simpa using ht)] at h
      rw [List.getElem?_replicate] at h; split at h <;> simp at h
  exact {
    size := by simp [start, hl]
    slots := fun t v h => by
      obtain ⟨x, hx1, hd⟩ := denL_get hx (slot t v h)
      have hlt := (List.getElem?_eq_some_iff.1 hx1).1
      exact ⟨x, by rw [Array.getElem?_append_left (by simpa using hlt)]; simpa using hx1, hd⟩
    defers := rfl
    fresh := fun n h => hp.fresh n (by
      rcases Nat.lt_or_ge n pre.length with g | g
      · simp only [start] at h; rw [List.getElem?_append_left (by simpa using g)] at h; simp [g] at h
      · exact g)
    mem := fun n o h => by
      obtain ⟨o0, h', rfl⟩ := memo n o h
      obtain ⟨b, c, hE, hob⟩ := hp.objs n o0 h'
      exact ⟨b, c, hE, lent_obj hob, fun ho _ => .inr ⟨n, o0, c, h', lent_mine ho, hE⟩⟩
    apart := fun n m o o' b c b' c' h1 h2 h3 h4 h5 h6 h7 => by
      obtain ⟨x, hx1, rfl⟩ := memo n o h1
      obtain ⟨y, hy1, rfl⟩ := memo m o' h2
      exact fun ht => hp.apart n m x y b c b' c' hx1 hy1 (by rw [← lent_owned]; exact h3) (by rw [← lent_live]; exact h4) h5 h6 h7 (lent_touches.1 ht)
    frame := fun _ _ _ => rfl
    grow := Nat.le_refl _
    os := rfl, tape := rfl, output := rfl
    glob := hp.glob }

/-- A CONTRACT OUT OF A RUN. -/
theorem meets_of_tri {f : FuncId} {fn : Func} {body : Code} {args : List AV} {pre post : List AObj} {res : AV} {k : Nat} {ex : Ex} {s' : AState} {hs : List Hint} {ob : List Prop} (hf : P.funcs[f]? = some fn) (hb : fn.body = some body)
    (hent : ∀ args w, (callFunc f args).run P w = .ok (.enter f args) w) (ht : Tri P body (start fn.ntmps args pre k) ex s' pre.length) (hex : ex = .ret ∨ ex = .normal) (hfin : finA P fn.results.toList hs s' pre.length res post = some ob) (hob : AllP ob) (hpq : ((pre.zip post).all fun p => !p.1.owned || p.2.owned || !p.2.live) = true) :
    Meets P f args pre res post := by
  intro w E xs hx hp
  refine .inl ⟨f, xs.toArray, hent _ w, calls_of_wp hf hb ?_⟩
  have h0 := start_rel (ntmps := fn.ntmps) (k := k) hx hp
  refine wp_mono (ht w _ E _ w h0) ?_
  rintro e a' w' ⟨rfl, E', hle, h'⟩
  unfold finA at hfin
  simp only at hfin
  split at hfin
  · rename_i ob1 vs ob2 hr hpo
    split at hfin
    · rename_i hpl
      cases hfin
      obtain ⟨k1, k2⟩ := allP_append.1 hob
      obtain ⟨k2, k3⟩ := k2
      have k2 : one vs = res := k2
      obtain ⟨k3, k4⟩ := allP_append.1 k3
      obtain ⟨x, hrun, hd⟩ := results_run h' hr k1
      let D : Nat → Bool := fun n => decide (post.length ≤ n)
      have hav := avoidA_spec k3
      have hpost := postA_get (mem := s'.mem) post 0 ob2 hpo k4
      simp only [Nat.zero_add] at hpost
      have hlive : ∀ {o : AObj}, o.owned = true → o.live = true := fun {o} h => by cases o <;> first | rfl | cases h
      have hDlt : ∀ {n}, n < post.length → D n = false := fun {n} hn => by simp only [D, decide_eq_false_iff_not]; omega
      have hcut : ∀ n, post.length ≤ n → E'.drop D n = none := fun n hn => by simp [Env.drop, D, hn]
      have back : ∀ n p, E'.drop D n = some p → n < post.length ∧ E' n = some p := fun n p hn => by
        rcases Nat.lt_or_ge n post.length with g | g
        · rw [drop_some (hDlt g)] at hn; exact ⟨g, hn⟩
        · rw [hcut n g] at hn; cases hn
      have P0 : PostR E (E'.drop D) w w' pre post :=
        { le := fun n p hn => by
            have hlt : n < pre.length := by
              rcases Nat.lt_or_ge n pre.length with g | g
              · exact g
              · rw [hp.fresh n g] at hn; cases hn
            rw [drop_some (hDlt (by omega))]; exact hle n p hlt hn
          cut := hcut
          objs := fun n o hn => by
            have hlt := (List.getElem?_eq_some_iff.1 hn).1
            obtain ⟨o', ho', hor⟩ := hpost n o hn
            obtain ⟨b, c, hE, hob, _⟩ := h'.mem n o' ho'
            refine ⟨b, c, by rw [drop_some (hDlt hlt)]; exact hE, ?_⟩
            rcases hor with ⟨rfl, _⟩ | ⟨hso, hao, _⟩
            · trivial
            · exact hao E' w' b c (sameO_obj hso hob)
          made := fun n b c p hn hp hE ht => by
            obtain ⟨hlt, hE⟩ := back n _ hE
            obtain ⟨o', ho', hor⟩ := hpost n p hp
            rcases hor with ⟨_, g⟩ | ⟨hso, _, g | g⟩
            · omega
            · omega
            · obtain ⟨b', c', hE2, _, hM⟩ := h'.mem n o' ho'
              rw [hE] at hE2; cases hE2
              rcases hM g (sameO_touches hso ht) with g2 | ⟨j, oj, cj, hj, hjo, hEj⟩
              · exact .inl g2
              · have hjlt := (List.getElem?_eq_some_iff.1 hj).1
                have hjl : j < post.length := by omega
                obtain ⟨oj', hoj', horj⟩ := hpost j _ (List.getElem?_eq_getElem hjl)
                have hEj' := hle j _ hjlt hEj
                have hq : post[j] = .dead ∨ post[j].owned = true := by
                  have := all_zip (f := fun p q => !p.owned || q.owned || !q.live) hpq hj (List.getElem?_eq_getElem hjl)
                  simp only [hjo, Bool.not_true, Bool.false_or, Bool.or_eq_true, Bool.not_eq_true'] at this
                  rcases this with h | h
                  · exact .inr h
                  · exact .inl (by generalize post[j] = q at h; cases q <;> first | rfl | cases h)
                rcases hq with hq | hq
                · exact .inr ⟨j, cj, oj, hj, hjo, by rw [List.getElem?_eq_getElem hjl, hq], hEj⟩
                · rcases horj with ⟨e, _⟩ | ⟨e, _⟩
                  · rw [e] at hq; cases hq
                  · have e2 := sameO_owned e hq
                    exact absurd (sameO_touches hso ht) (h'.apart j n oj' o' b cj b c hoj' ho' (e2 ▸ hq) (mine_live g) hEj' hE (by omega))
          keep := fun j hj hne => h'.frame j hj (by
            rintro ⟨n, o, c, h1, h2, h3⟩
            exact hne n o c h1 h2 h3)
          newApart := fun n m p p' b c b' c' hn hm hp hp' w1 w2 hE1 hE2 hne => by
            obtain ⟨hl1, hE1⟩ := back n _ hE1
            obtain ⟨hl2, hE2⟩ := back m _ hE2
            obtain ⟨o1, ho1, hor1⟩ := hpost n p hp
            obtain ⟨o2, ho2, hor2⟩ := hpost m p' hp'
            have s1 : sameO o1 p := by rcases hor1 with ⟨_, g⟩ | ⟨g, _⟩ <;> first | exact g | omega
            have s2 : sameO o2 p' ∧ o2.mine = true := by
              rcases hor2 with ⟨_, g⟩ | ⟨g, _, g2 | g2⟩ <;> first | exact ⟨g, g2⟩ | omega
            have e1 := sameO_owned s1 w1
            subst e1
            exact fun ht => h'.apart n m o1 o2 b c b' c' ho1 ho2 w1 (mine_live s2.2) hE1 hE2 hne (sameO_touches s2.1 ht)
          grow := h'.grow, os := h'.os, tape := h'.tape, output := h'.output }
      have hR : ∃ E' x', Ending.returned x = .returned x' ∧ den E' res = some x' ∧ PostR E E' w w' pre post := ⟨E'.drop D, x, rfl, hav E' x (k2 ▸ hd), P0⟩
      rcases hex with rfl | rfl
      · exact ⟨h'.defers, x, hrun, hR⟩
      · exact ⟨h'.defers, x, hrun, hR⟩
    · cases hfin
  · cases hfin

def bodyOf (fn : Func) : Code := fn.body.getD .skip

/-- THE SAME, OF A BODY WITHOUT A LOOP OF ITS OWN, OR WITH LOOPS THAT ARE TOLD OF. -/
theorem meets_of_exec {f : FuncId} {fn : Func} {args : List AV} {pre post : List AObj} {res : AV} (k : Nat) (q : List Orc) (hs : List Hint) {r : Out} {ob : List Prop} (hf : P.funcs[f]? = some fn) (hb : fn.body.isSome = true)
    (hent : ∀ args w, (callFunc f args).run P w = .ok (.enter f args) w) (he : exec P pre.length (bodyOf fn) q (start fn.ntmps args pre k) = some r) (h1 : AllP r.obl) (hex : r.ex = .ret ∨ r.ex = .normal) (hfin : finA P fn.results.toList hs r.st pre.length res post = some ob) (hob : AllP ob) (hpo : ((pre.zip post).all fun p => !p.1.owned || p.2.owned || !p.2.live) = true) :
    Meets P f args pre res post :=
  meets_of_tri (body := bodyOf fn) hf (by unfold bodyOf; cases h : fn.body with | none => rw [h] at hb; cases hb | some b => rfl) hent (exec_sound _ _ _ _ he h1) hex hfin hob hpo

end Go.Proofs.YtanhlbdcjonaoaaDoor.Sx

/- The symbolic executor, part V: small lemmas for what a run leaves to be shown. -/
set_option linter.unusedSimpArgs false
set_option linter.unusedVariables false
namespace Go.Proofs.YtanhlbdcjonaoaaDoor.Sx
open Go

/-- The bodies of a code's loops, in the order of the text. -/
def loopsOf : Code → List Code
  | .loop b => b :: loopsOf b
  | .seq a b => loopsOf a ++ loopsOf b
  | .cond _ a b => loopsOf a ++ loopsOf b
  | .block _ b => loopsOf b
  | .scope b => loopsOf b
  | _ => []
def loopN (c : Code) (i : Nat) : Code := (loopsOf c).getD i .skip

/-- A type's zero value, cell by cell. -/
def zeroCellsA (P : Program) (t : TypeId) : List AV := match zeroA P t with | some z => z.cells | none => []

theorem bT {p : Prop} [Decidable p] (h : p) : AV.bool (decide p) = AV.bool true := by simp [h]
theorem bF {p : Prop} [Decidable p] (h : ¬ p) : AV.bool (decide p) = AV.bool false := by simp [h]
theorem eqT {α : Type} [BEq α] [LawfulBEq α] {a b : α} (h : a = b) : AV.bool (a == b) = AV.bool true := by simp [h]
theorem eqF {α : Type} [BEq α] [LawfulBEq α] {a b : α} (h : ¬ a = b) : AV.bool (a == b) = AV.bool false := by simp [h]
theorem neT {α : Type} [BEq α] [LawfulBEq α] {a b : α} (h : ¬ a = b) : AV.bool (a != b) = AV.bool true := by simp [h]
theorem neF {α : Type} [BEq α] [LawfulBEq α] {a b : α} (h : a = b) : AV.bool (a != b) = AV.bool false := by simp [h]
theorem sneT {α : Type} [BEq α] [LawfulBEq α] {a b : α} (h : ¬ a = b) : AV.bool (!(a == b)) = AV.bool true := by simp [h]
theorem sneF {α : Type} [BEq α] [LawfulBEq α] {a b : α} (h : a = b) : AV.bool (!(a == b)) = AV.bool false := by simp [h]
theorem boolT {b : Bool} (h : b = true) : AV.bool b = AV.bool true := by rw [h]
theorem boolF {b : Bool} (h : ¬ b = true) : AV.bool b = AV.bool false := by cases b <;> simp_all

theorem i64_in {n : Int} (h : -9223372036854775808 ≤ n) (h2 : n < 9223372036854775808) : IntKind.i64.wrap n = n := by
  have e : IntKind.i64.wrap n = (if n % 18446744073709551616 ≥ 9223372036854775808 then n % 18446744073709551616 - 18446744073709551616 else n % 18446744073709551616) := by
    simp [IntKind.wrap, IntKind.bits, IntKind.signed]
  rw [e]; split <;> omega
theorem u8_in {n : Int} (h : 0 ≤ n) (h2 : n < 256) : IntKind.u8.wrap n = n := by
  have e : IntKind.u8.wrap n = n % 256 := by simp [IntKind.wrap, IntKind.bits, IntKind.signed]
  rw [e]; omega
theorem i32_in {n : Int} (h : -2147483648 ≤ n) (h2 : n < 2147483648) : IntKind.i32.wrap n = n := by
  have e : IntKind.i32.wrap n = (if n % 4294967296 ≥ 2147483648 then n % 4294967296 - 4294967296 else n % 4294967296) := by
    simp [IntKind.wrap, IntKind.bits, IntKind.signed]
  rw [e]; split <;> omega
theorem u64_in {n : Int} (h : 0 ≤ n) (h2 : n < 18446744073709551616) : IntKind.u64.wrap n = n := by
  have e : IntKind.u64.wrap n = n % 18446744073709551616 := by simp [IntKind.wrap, IntKind.bits, IntKind.signed]
  rw [e]; omega
theorem u32_in {n : Int} (h : 0 ≤ n) (h2 : n < 4294967296) : IntKind.u32.wrap n = n := by
  have e : IntKind.u32.wrap n = n % 4294967296 := by simp [IntKind.wrap, IntKind.bits, IntKind.signed]
  rw [e]; omega

theorem wI {n z : Int} (h : n = z ∧ -9223372036854775808 ≤ z ∧ z < 9223372036854775808) : AV.int .i64 (IntKind.i64.wrap n) = AV.int .i64 z := by
  rw [h.1, i64_in h.2.1 h.2.2]
theorem w_u8 {n z : Int} (h : n = z ∧ 0 ≤ z ∧ z < 256) : AV.int .u8 (IntKind.u8.wrap n) = AV.int .u8 z := by
  rw [h.1, u8_in h.2.1 h.2.2]
theorem w_i32 {n z : Int} (h : n = z ∧ -2147483648 ≤ z ∧ z < 2147483648) : AV.int .i32 (IntKind.i32.wrap n) = AV.int .i32 z := by
  rw [h.1, i32_in h.2.1 h.2.2]
theorem w_u64 {n z : Int} (h : n = z ∧ 0 ≤ z ∧ z < 18446744073709551616) : AV.int .u64 (IntKind.u64.wrap n) = AV.int .u64 z := by
  rw [h.1, u64_in h.2.1 h.2.2]
theorem w_u32 {n z : Int} (h : n = z ∧ 0 ≤ z ∧ z < 4294967296) : AV.int .u32 (IntKind.u32.wrap n) = AV.int .u32 z := by
  rw [h.1, u32_in h.2.1 h.2.2]
theorem quoI {x y z : Int} (h : 0 ≤ x ∧ 0 < y ∧ x < 9223372036854775808 ∧ x / y = z) : AV.int .i64 (IntKind.i64.wrap (x.tdiv y)) = AV.int .i64 z := by
  obtain ⟨h1, h2, h3, h4⟩ := h
  rw [Int.tdiv_eq_ediv_of_nonneg h1, h4]
  have a : 0 ≤ x / y := Int.ediv_nonneg h1 (by omega)
  have b : x / y ≤ x := Int.ediv_le_self _ h1
  rw [i64_in (by omega) (by omega)]
theorem tdiv_range {x y : Int} (h : -9223372036854775808 < x ∧ x < 9223372036854775808) : -9223372036854775808 < x.tdiv y ∧ x.tdiv y < 9223372036854775808 := by
  have h1 : (x.tdiv y).natAbs = x.natAbs / y.natAbs := Int.natAbs_tdiv x y
  have h3 : (x.tdiv y).natAbs ≤ x.natAbs := h1 ▸ Nat.div_le_self x.natAbs y.natAbs
  clear h1
  generalize x.tdiv y = z at h3 ⊢
  omega
theorem tdivI {x y : Int} (h : -9223372036854775808 < x ∧ x < 9223372036854775808) : AV.int .i64 (IntKind.i64.wrap (x.tdiv y)) = AV.int .i64 (x.tdiv y) := by
  have := tdiv_range (y := y) h
  rw [i64_in (by omega) (by omega)]
theorem remI {x y z : Int} (h : 0 ≤ x ∧ x % y = z) : AV.int .i64 (x.tmod y) = AV.int .i64 z := by
  rw [Int.tmod_eq_emod_of_nonneg h.1, h.2]
theorem intE {k : IntKind} {a b : Int} (h : a = b) : AV.int k a = AV.int k b := by rw [h]
theorem strE {a b : List UInt8} (h : a = b) : AV.str a = AV.str b := by rw [h]
theorem boolE {a b : Bool} (h : a = b) : AV.bool a = AV.bool b := by rw [h]
theorem ptrE {n a b : Nat} (h : a = b) : AV.ptr n a = AV.ptr n b := by rw [h]
theorem vecE {n a b : Nat} (h : a = b) : AV.vec n a = AV.vec n b := by rw [h]
theorem dslE {n a b : Nat} (h : a = b) : AV.dsl n a = AV.dsl n b := by rw [h]
theorem dptrE {n a b : Nat} (h : a = b) : AV.dptr n a = AV.dptr n b := by rw [h]
theorem sliceE {n a b l l' c c' : Nat} (h : a = b) (h1 : l = l') (h2 : c = c') : AV.slice n a l c = AV.slice n b l' c' := by rw [h, h1, h2]
theorem minI {k : IntKind} {x y : Int} : AV.int k (if y < x then y else x) = AV.int k (min x y) := by congr 1; omega
theorem maxI {k : IntKind} {x y : Int} : AV.int k (if y > x then y else x) = AV.int k (max x y) := by congr 1; omega

theorem ints_length {k : IntKind} {l : List Int} : (ints k l).length = l.length := by simp [ints]
theorem u8s_length {l : List UInt8} : (u8s l).length = l.length := by simp [u8s]
theorem ints_get {k : IntKind} {l : List Int} {i : Nat} (h : i < l.length) : (ints k l)[i]? = some (AV.int k (l.getD i 0)) := by
  simp [ints, List.getD, h]
theorem ints_get' {k : IntKind} {l : List Int} {i : Nat} (h : i < l.length) : (ints k l)[i]? = some (AV.int k (l.getD i 0)) := ints_get h
theorem ints_at {k : IntKind} {l : List Int} {i j : Nat} (pre : List AV) (h : j = i + pre.length) (hi : i < l.length) : (pre ++ ints k l)[j]? = some (AV.int k (l.getD i 0)) := by
  rw [h, List.getElem?_append_right (by omega), show i + pre.length - pre.length = i by omega, ints_get hi]
theorem ints_in {k : IntKind} {l : List Int} {i j : Nat} {post : List AV} (pre : List AV) (h : j = i + pre.length) (hi : i < l.length) : (pre ++ (ints k l ++ post))[j]? = some (AV.int k (l.getD i 0)) := by
  rw [h, List.getElem?_append_right (by omega), show i + pre.length - pre.length = i by omega, List.getElem?_append_left (by rw [ints_length]; omega), ints_get hi]
theorem flat1 {α : Type} {a : α} (n : Nat) : (List.replicate n [a]).flatten = List.replicate n a := by
  induction n with
  | zero => rfl
  | succ n ih => rw [List.replicate_succ, List.flatten_cons, ih, List.replicate_succ]; rfl
/-- The tail of a stretch of numbers made zero. -/
theorem clear_ints {k : IntKind} {l us : List Int} {i m j t : Nat} (pre : List AV) (hj : j = i + pre.length) (hl : i + m = l.length) (hu : l.take i ++ List.replicate m 0 = us) :
    AObj.cells (List.take j (pre ++ ints k l) ++ (List.replicate m [AV.int k 0]).flatten ++ List.drop (j + ((List.replicate m [AV.int k 0]).flatten).length) (pre ++ ints k l)) t = AObj.cells (pre ++ ints k us) t := by
  subst hu; subst hj
  rw [flat1, List.length_replicate, List.take_append, List.drop_append, List.take_of_length_le (by omega), List.drop_eq_nil_of_le (by omega)]
  rw [show i + pre.length - pre.length = i by omega, show i + pre.length + m - pre.length = l.length by omega]
  simp only [ints, List.map_append, List.map_take, List.map_replicate]
  rw [List.drop_eq_nil_of_le (by simp)]
  simp
theorem part_at {l : List AV} {n i : Nat} (pre : List AV) (hi : i = pre.length) (h : l.length = n) : List.take n (List.drop i (pre ++ l)) = l := by
  subst hi; subst h
  rw [List.drop_left, List.take_length]
theorem u8s_get {s : List UInt8} {i : Nat} (h : i < s.length) : (u8s s)[i]? = some (AV.int .u8 (((s.getD i 0).toNat : Nat) : Int)) := by
  simp [u8s, List.getD, h]
theorem atT {l : List AV} {n : Nat} {b : Bool} (h : l[n]? = some (AV.bool b)) (hb : b = true) : l[n]? = some (AV.bool true) := by rw [h, hb]
theorem atF {l : List AV} {n : Nat} {b : Bool} (h : l[n]? = some (AV.bool b)) (hb : ¬ b = true) : l[n]? = some (AV.bool false) := by rw [h]; simpa using hb
theorem ints_set {k : IntKind} {l : List Int} {i : Nat} {x : Int} : (ints k l).set i (AV.int k x) = ints k (l.set i x) := by
  simp [ints, List.map_set]
theorem strGet {s : List UInt8} {i : Nat} (h : i < s.length) : Option.map (fun c : UInt8 => (c.toNat : Int)) s[i]? = some ((s.getD i 0).toNat : Int) := by
  simp [List.getD, h]
theorem whole_cells {l : List AV} {n : Nat} (h : l.length = n) : List.take n (List.drop (0 - 0) l) = l := by
  simp [← h]
theorem set_eq {l : List AV} {i : Nat} {v : AV} (h : i < l.length) : List.take i l ++ [v] ++ List.drop (i + 1) l = l.set i v := by
  rw [List.set_eq_take_append_cons_drop, if_pos h]; simp
theorem store_ints {k : IntKind} {l : List Int} {i t : Nat} {x : Int} (pre : List AV) (h : i < l.length) :
    AObj.cells (List.take (i + pre.length) (pre ++ ints k l) ++ [AV.int k x] ++ List.drop (i + pre.length + 1) (pre ++ ints k l)) t = AObj.cells (pre ++ ints k (l.set i x)) t := by
  rw [set_eq (by simp [ints_length]; omega), List.set_append_right _ _ (by omega), show i + pre.length - pre.length = i by omega, ints_set]
theorem store_whole {l v : List AV} {n t : Nat} (h : l.length = n) : AObj.cells (List.take 0 l ++ v ++ List.drop (0 + n) l) t = AObj.cells v t := by
  simp [← h]

theorem renL_ints (r : List Nat) (k : IntKind) (l : List Int) : renL r (ints k l) = ints k l := by
  induction l with
  | nil => rfl
  | cons a l ih => simp only [ints, List.map_cons, renL, AV.ren] at ih ⊢; rw [ih]
theorem renL_u8s (r : List Nat) (l : List UInt8) : renL r (u8s l) = u8s l := by
  induction l with
  | nil => rfl
  | cons a l ih => simp only [u8s, List.map_cons, renL, AV.ren] at ih ⊢; rw [ih]
theorem renL_append (r : List Nat) (a b : List AV) : renL r (a ++ b) = renL r a ++ renL r b := by
  induction a with
  | nil => rfl
  | cons v a ih => simp [renL, ih]

theorem dropOK {s : AState} (D : List Nat) (h : (D.all (freshB s.mem)) = true) : ∀ n, (fun n => D.contains n) n = true → s.mem[n]? = some none := by
  intro n hn
  have := List.all_eq_true.1 h n (by simpa using hn)
  unfold freshB at this
  split at this
  · assumption
  · cases this

/-- What is never written may be told of its first cells alone, and of another one who made it. -/
theorem Fits.flat {m m' : Bool} {cs us : List AV} (h : cs.take us.length = us) : Fits (.flat m cs) (.flat m' us) := fun E w k c ho => by
  obtain ⟨xs, hx, hz, hw⟩ := (sameF_obj (a := .flat m cs) (b := .flat m us) ⟨rfl, h⟩ ho)
  exact ⟨xs, hx, hz, hw⟩
theorem Fits.ints {m m' : Bool} {k : IntKind} {r : List Nat} {l l' : List Int} (h : l.take l'.length = l') : Fits (.flat m (ints k l)) (AObj.ren r (.flat m' (ints k l'))) := by
  simp only [AObj.ren, renL_ints]
  exact Fits.flat (by rw [ints_length]; simp only [Sx.ints, ← List.map_take, h])
theorem Fits.ints' {m m' : Bool} {k : IntKind} {l l' : List Int} (h : l.take l'.length = l') : Fits (.flat m (Sx.ints k l)) (.flat m' (Sx.ints k l')) :=
  Fits.flat (by rw [ints_length]; simp only [Sx.ints, ← List.map_take, h])
theorem Fits.vec_flat {m : Bool} {k : IntKind} {l l' : List Int} {t : TypeId} {sz : Nat} (h : l.take l'.length = l') : Fits (.vec (Sx.ints k l) t sz) (.flat m (Sx.ints k l')) := fun E w b c ho => by
  have hlt := ho.lt rfl rfl
  obtain ⟨xs, ys, hx, ⟨mk, hw, hmk⟩, hl, h1, h2⟩ := ho
  have hob : ObjR E w b c (.flat m (Sx.ints k l)) := ⟨xs, hx, (fun e => by rw [h2] at e; cases e), fun _ => ⟨hlt, fun i x hi => by
    rw [h1, Nat.zero_add, cell_of_block hw]
    have hlt := (List.getElem?_eq_some_iff.1 hi).1
    simp only [List.getElem?_toArray, List.getElem?_append_left hlt, hi]⟩⟩
  exact Fits.ints' (m := m) h E w b c hob
theorem sameF_ints {m : Bool} {k : IntKind} {l l' : List Int} (h : l.take l'.length = l') : sameF (.flat m (ints k l)) (.flat m (ints k l')) :=
  ⟨rfl, by rw [ints_length]; simp only [ints, ← List.map_take, h]⟩
theorem sameF_ren {m : Bool} {k : IntKind} {r : List Nat} {l l' : List Int} (h : l.take l'.length = l') : sameF (.flat m (ints k l)) (AObj.ren r (.flat m (ints k l'))) := by
  simp only [AObj.ren, renL_ints]; exact sameF_ints h

theorem tri_down {P : Program} {body : Code} {ex : Ex} {out : AState} {K : Nat} (inv : Nat → AState) (hex : ex ≠ .normal) (n : Nat) (round : ∀ k, k < n → Tri P body (inv (k + 1)) .normal (inv k) K) (last : Tri P body (inv 0) ex out K) (k : Nat) (hk : k ≤ n) : Tri P (.loop body) (inv k) ex out K :=
  tri_loop (ι := {k : Nat // k ≤ n}) (fun i => inv i.1) (fun i => i.1) hex (fun ⟨k, hk⟩ => by
    cases k with
    | zero => exact .inr last
    | succ k => exact .inl ⟨⟨k, by omega⟩, Nat.lt_succ_self k, round k (by omega)⟩) ⟨k, hk⟩

theorem tri_up {P : Program} {body : Code} {ex : Ex} {out : AState} {K : Nat} (inv : Nat → AState) (hex : ex ≠ .normal) (n : Nat) (round : ∀ k, k < n → Tri P body (inv k) .normal (inv (k + 1)) K) (last : Tri P body (inv n) ex out K) (k : Nat) (hk : k ≤ n) : Tri P (.loop body) (inv k) ex out K :=
  tri_loop (ι := {k : Nat // k ≤ n}) (fun i => inv i.1) (fun i => n - i.1) hex (fun ⟨k, hk⟩ => by
    by_cases e : k = n
    · subst e; exact .inr last
    · exact .inl ⟨⟨k + 1, by omega⟩, by show n - (k + 1) < n - k; omega, round k (by omega)⟩) ⟨k, hk⟩

theorem ne_normal_exit (id : Nat) : Ex.exit id ≠ .normal := by simp
theorem ne_normal_ret : Ex.ret ≠ .normal := by simp

end Go.Proofs.YtanhlbdcjonaoaaDoor.Sx

/- Shorter words for runs: a run's claims told by their proofs, no state of its end spelled out. -/
set_option linter.unusedVariables false
set_option linter.unusedSimpArgs false
namespace Go.Proofs.YtanhlbdcjonaoaaDoor.Sx
open Go

abbrev jI (n : Int) : AV := .int .i64 n
abbrev jU (n : Int) : AV := .int .u8 n
abbrev jB (b : Bool) : AV := .bool b
abbrev jA (cs : List AV) : AV := .agg cs
abbrev jT (cs : List AV) : AV := .tuple cs
abbrev jS (s : List UInt8) : AV := .str s
abbrev jP (n o : Nat) : AV := .ptr n o
abbrev jC (cs : List AV) (t : Nat) : AObj := .cells cs t
abbrev sI (n : Int) : Option AV := some (.int .i64 n)
abbrev sP (n o : Nat) : Option AV := some (.ptr n o)
abbrev sB (b : Bool) : Option AV := some (.bool b)

abbrev hhV (i : Nat) (v : AV) : Nat × Hint := (i, {val := some v})
abbrev hhB (i : Nat) (b : Bool) : Nat × Hint := (i, {val := some (.bool b)})
abbrev hhI (i : Nat) (n : Int) : Nat × Hint := (i, {val := some (.int .i64 n)})
abbrev hhN (i n : Nat) : Nat × Hint := (i, {nm := [n]})
abbrev hhK (i : Nat) (args : List AV) (res : AV) : Nat × Hint := (i, {call := some ⟨[], args, [], res, []⟩})
abbrev hhM (i : Nat) {P : Program} {f : FuncId} {args : List AV} {res : AV} (h : Meets P f args [] res []) : Nat × Hint := (i, {call := some ⟨[], args, [], res, []⟩})
abbrev hhMB (i : Nat) {P : Program} {f : FuncId} {args : List AV} {res : AV} (h : Meets P f args [] res []) (b : Bool) : Nat × Hint := (i, {call := some ⟨[], args, [], res, []⟩, val := some (.bool b)})
abbrev rG (hs : List (Nat × Hint)) : Orc := .reg hs

theorem oA {a b : List Prop} (h : AllP a) (k : AllP b) : AllP (a ++ b) := allP_append.2 ⟨h, k⟩
theorem oS {p : Prop} (h : p) : AllP [p] := ⟨h, trivial⟩
theorem oN : AllP [] := trivial
/-- Each is itself. -/
theorem oR : ∀ vs : List AV, AllP (vs.map fun v => v = v)
  | [] => trivial
  | _ :: vs => ⟨rfl, oR vs⟩
theorem oQ : ∀ vs : List AObj, AllP (vs.map fun v => v = v)
  | [] => trivial
  | _ :: vs => ⟨rfl, oQ vs⟩
theorem oLw (cs : List AV) {n : Nat} (h : cs.length = n) : AllP [0 ≤ 0, 0 - 0 + n ≤ cs.length, List.take n (List.drop (0 - 0) cs) = cs] :=
  ⟨Nat.le_refl _, by omega, by simp [← h], trivial⟩
theorem oLp (cs : List AV) (off n : Nat) (vs : List AV) (h : Nat.ble (off - 0 + n) cs.length = true) (h2 : List.take n (List.drop (off - 0) cs) = vs) : AllP [0 ≤ off, off - 0 + n ≤ cs.length, List.take n (List.drop (off - 0) cs) = vs] :=
  ⟨Nat.zero_le _, Nat.le_of_ble_eq_true h, h2, trivial⟩
theorem oLf (cs : List AV) (off : Nat) (v : AV) (h : cs[off - 0]? = some v) : AllP [0 ≤ off, cs[off - 0]? = some v] :=
  ⟨Nat.zero_le _, h, trivial⟩
theorem oSw (vc cs : List AV) (t : Nat) {n : Nat} (h : vc.length = n) (k : cs.length = n) : AllP [vc.length = n, 0 + n ≤ cs.length, AObj.cells (List.take 0 cs ++ vc ++ List.drop (0 + n) cs) t = AObj.cells vc t] :=
  ⟨h, by omega, by rw [show 0 + n = cs.length by omega, List.drop_length]; simp, trivial⟩
theorem oSf (vc cs : List AV) (off n t : Nat) (us : List AV) (h : vc.length = n) (k : Nat.ble (off + n) cs.length = true) (e : List.take off cs ++ vc ++ List.drop (off + n) cs = us) : AllP [vc.length = n, off + n ≤ cs.length, AObj.cells (List.take off cs ++ vc ++ List.drop (off + n) cs) t = AObj.cells us t] :=
  ⟨h, Nat.le_of_ble_eq_true k, by rw [e], trivial⟩
theorem oC {P : Program} {f : FuncId} {args : List AV} {res : AV} (h : Meets P f args [] res []) (e : args = renL [] args) : AllP [args = renL [] args, Meets P f args [] res []] := ⟨e, h, trivial⟩
theorem oW (n z : Int) (h : n = z ∧ -9223372036854775808 ≤ z ∧ z < 9223372036854775808) : AllP [AV.int .i64 (IntKind.i64.wrap n) = AV.int .i64 z] := ⟨wI h, trivial⟩
theorem oWs (z : Int) (h : -9223372036854775808 ≤ z ∧ z < 9223372036854775808) : AllP [AV.int .i64 (IntKind.i64.wrap z) = AV.int .i64 z] := ⟨wI ⟨rfl, h⟩, trivial⟩

/-- No place in memory is in it. -/
def pureV : AV → Bool
  | .bool _ => true
  | .int _ _ => true
  | .str _ => true
  | .nilptr => true
  | .nilslice => true
  | .nilfunc => true
  | .niliface => true
  | .agg cs => pureL cs
  | .tuple cs => pureL cs
  | _ => false
where pureL : List AV → Bool
  | [] => true
  | c :: cs => pureV c && pureL cs

mutual
theorem pureV_avoid (D : Nat → Bool) : ∀ (v : AV), pureV v = true → Avoid D v
  | .bool _, _ => Avoid.bool _ _
  | .int _ _, _ => Avoid.int _ _ _
  | .str _, _ => Avoid.str _ _
  | .nilptr, _ => Avoid.nilptr _
  | .nilslice, _ => Avoid.nilslice _
  | .nilfunc, _ => Avoid.nilfunc _
  | .niliface, _ => Avoid.niliface _
  | .agg cs, h => Avoid.agg (pureL_avoid D cs h)
  | .tuple cs, h => Avoid.tuple (pureL_avoid D cs h)
  | .ptr _ _, h => by simp [pureV] at h
  | .slice _ _ _ _, h => by simp [pureV] at h
  | .vec _ _, h => by simp [pureV] at h
  | .dsl _ _, h => by simp [pureV] at h
  | .dptr _ _, h => by simp [pureV] at h
  | .func _ _ _, h => by simp [pureV] at h
  | .iface _ _, h => by simp [pureV] at h
  | .bad, h => by simp [pureV] at h
theorem pureL_avoid (D : Nat → Bool) : ∀ (vs : List AV), pureV.pureL vs = true → AvoidL D vs
  | [], _ => AvoidL.nil _
  | v :: vs, h => by
    simp only [pureV.pureL, Bool.and_eq_true] at h
    exact AvoidL.cons (pureV_avoid D v h.1) (pureL_avoid D vs h.2)
end
theorem oV {D : Nat → Bool} (v : AV) (h : pureV v = true) : AllP [Avoid D v] := ⟨pureV_avoid D v h, trivial⟩

/-! ### runs -/
def runM (P : Program) (fn : Func) (args : List AV) (pre : List AObj) (k : Nat) (q : List Orc) (hs : List Hint) (res : AV) (post : List AObj) : Option (List Prop × List Prop) :=
  match exec P pre.length (bodyOf fn) q (start fn.ntmps args pre k) with
  | some r => match r.ex with
    | .exit _ => none
    | _ => if (pre.zip post).all (fun p => !p.1.owned || p.2.owned || !p.2.live) then (finA P fn.results.toList hs r.st pre.length res post).map fun o => (r.obl, o) else none
  | none => none
theorem meets_run {P : Program} {f : FuncId} {fn : Func} {args : List AV} {pre post : List AObj} {res : AV} (k : Nat) (q : List Orc) (hs : List Hint) {L ob : List Prop} (hf : P.funcs[f]? = some fn) (hb : fn.body.isSome = true)
    (hent : ∀ args w, (callFunc f args).run P w = .ok (.enter f args) w) (h1 : AllP L) (h2 : AllP ob) (he : runM P fn args pre k q hs res post = some (L, ob)) : Meets P f args pre res post := by
  unfold runM at he
  split at he
  · rename_i r hr
    have key : r.ex = .ret ∨ r.ex = .normal → (if (pre.zip post).all (fun p => !p.1.owned || p.2.owned || !p.2.live) then (finA P fn.results.toList hs r.st pre.length res post).map (fun o => (r.obl, o)) else none) = some (L, ob) → Meets P f args pre res post := by
      intro hex he
      split at he
      case isFalse => cases he
      rename_i hpq
      rw [Option.map_eq_some_iff] at he
      obtain ⟨o, ho, e⟩ := he
      simp only [Prod.mk.injEq] at e
      obtain ⟨rfl, rfl⟩ := e
      exact meets_of_exec k q hs hf hb hent hr h1 hex ho h2 hpq
    cases hex : r.ex with
    | normal => rw [hex] at he; exact key (.inr hex) he
    | ret => rw [hex] at he; exact key (.inl hex) he
    | exit i => rw [hex] at he; cases he
  · cases he

def exB : Ex → Ex → Bool
  | .normal, .normal => true
  | .ret, .ret => true
  | .exit a, .exit b => a == b
  | _, _ => false
theorem exB_eq {a b : Ex} (h : exB a b = true) : a = b := by
  cases a <;> cases b <;> first | rfl | (simp [exB] at h; try rw [h])
def runT (P : Program) (K : Nat) (c : Code) (q : List Orc) (s : AState) (ex : Ex) (tgt : AState → Option (List Prop)) : Option (List Prop × List Prop) :=
  match exec P K c q s with
  | some r => if exB r.ex ex then (tgt r.st).map fun o => (r.obl, o) else none
  | none => none
theorem runT_some {P : Program} {K : Nat} {c : Code} {q : List Orc} {s : AState} {ex : Ex} {tgt : AState → Option (List Prop)} {L ob : List Prop} (he : runT P K c q s ex tgt = some (L, ob)) (h1 : AllP L) : ∃ st, Tri P c s ex st K ∧ tgt st = some ob := by
  unfold runT at he
  split at he
  · rename_i r hr
    split at he
    · rename_i hx
      rw [Option.map_eq_some_iff] at he
      obtain ⟨o, ho, e⟩ := he
      simp only [Prod.mk.injEq] at e
      obtain ⟨rfl, rfl⟩ := e
      exact ⟨r.st, exB_eq hx ▸ exec_sound _ _ _ _ hr h1, ho⟩
    · cases he
  · cases he
theorem tri_weak {P : Program} {K : Nat} {c : Code} {s t : AState} {ex : Ex} (q : List Orc) {L ob : List Prop} (h1 : AllP L) (h2 : AllP ob) (he : runT P K c q s ex (fun st => weakA st t) = some (L, ob)) : Tri P c s ex t K := by
  obtain ⟨st, h, k⟩ := runT_some he h1
  exact Tri.weak h k h2
theorem tri_next {P : Program} {K : Nat} {c : Code} {s t : AState} {ex : Ex} (D : List Nat) (q : List Orc) {L ob : List Prop} (h1 : AllP L) (h2 : AllP ob) (he : runT P K c q s ex (fun st => dropA (fun n => D.contains n) st t) = some (L, ob)) (hD : (D.all (freshB s.mem)) = true) : Tri P c s ex t K := by
  obtain ⟨st, h, k⟩ := runT_some he h1
  exact Tri.next (D := fun n => D.contains n) h k h2 (dropOK D hD)
theorem tri_ren {P : Program} {K : Nat} {c : Code} {s t : AState} {ex : Ex} (r : List Nat) (q : List Orc) {L ob : List Prop} (h1 : AllP L) (h2 : AllP ob) (he : runT P K c q s ex (fun st => renA r K st t) = some (L, ob)) : Tri P c s ex t K := by
  obtain ⟨st, h, k⟩ := runT_some he h1
  exact Tri.ren r h k h2

end Go.Proofs.YtanhlbdcjonaoaaDoor.Sx

/- The symbolic executor, part X: functions of the library without a body of Go. -/
set_option linter.unusedSimpArgs false
set_option linter.unusedVariables false
namespace Go.Proofs.YtanhlbdcjonaoaaDoor.Sx
open Go

/-- Which comes first, cell by cell. -/
def cmpI : List Int → List Int → Int
  | [], [] => 0
  | [], _ :: _ => -1
  | _ :: _, [] => 1
  | a :: as, b :: bs => if a < b then -1 else if b < a then 1 else cmpI as bs

def bytesI (l : List Int) : List UInt8 := l.map fun x => x.toNat.toUInt8

theorem u8_toNat {a : Int} (h : 0 ≤ a ∧ a < 256) : (a.toNat.toUInt8).toNat = a.toNat := by
  have : a.toNat < 256 := by omega
  simp [Nat.toUInt8]
  omega

theorem u8_lt {a b : Int} (ha : 0 ≤ a ∧ a < 256) (hb : 0 ≤ b ∧ b < 256) : (a.toNat.toUInt8 < b.toNat.toUInt8) ↔ a < b := by
  rw [UInt8.lt_iff_toNat_lt, u8_toNat ha, u8_toNat hb]; omega

theorem compareBytes_bytesI : ∀ (xs ys : List Int), (∀ x ∈ xs, 0 ≤ x ∧ x < 256) → (∀ y ∈ ys, 0 ≤ y ∧ y < 256) → Lib.compareBytes (bytesI xs) (bytesI ys) = cmpI xs ys
  | [], [], _, _ => rfl
  | [], _ :: _, _, _ => rfl
  | _ :: _, [], _, _ => rfl
  | a :: as, b :: bs, ha, hb => by
    have h1 := ha a (by simp)
    have h2 := hb b (by simp)
    have ih := compareBytes_bytesI as bs (fun x hx => ha x (by simp [hx])) (fun y hy => hb y (by simp [hy]))
    simp only [bytesI, List.map_cons, Lib.compareBytes, cmpI] at ih ⊢
    simp only [u8_lt h1 h2, u8_lt h2 h1, ih]

theorem run_loadBytes {P : Program} {w : World} {b : Nat} : ∀ (l : List Int) (off : Nat) (acc : ByteArray), (∀ (i : Nat) x, (l.map (Value.int .u8))[i]? = some x → w.cell? ⟨b, off + i, none⟩ = some x) →
    (Extern.Bytes.loadBytes ⟨b, off, none⟩ l.length acc).run P w = .ok ⟨acc.data ++ (bytesI l).toArray⟩ w
  | [], off, acc, h => by simp [Extern.Bytes.loadBytes, bytesI]
  | a :: l, off, acc, h => by
    have h0 := h 0 _ rfl
    simp only [Nat.add_zero] at h0
    have ih := run_loadBytes (P := P) l (off + 1) (acc.push a.toNat.toUInt8) (fun i x hi => by
      have := h (i + 1) x (by simpa using hi)
      rwa [show off + (i + 1) = off + 1 + i by omega] at this)
    simp only [List.length_cons, Extern.Bytes.loadBytes, Sem.run_bind, run_load, h0, Result.andThen_ok, Addr.add_none, ih]
    congr 1
    apply ByteArray.ext
    simp [bytesI]

theorem denL_ints {E : Env} {k : IntKind} (l : List Int) : denL E (ints k l) = some (l.map (Value.int k)) := by
  induction l with
  | nil => rfl
  | cons a l ih => simp only [ints, List.map_cons]; exact denL_cons.2 ⟨_, _, rfl, ih, rfl⟩

theorem PostR.same {E : Env} {w : World} {pre : List AObj} (h : PreR E w pre) : PostR E E w w pre pre :=
  { le := .refl _, cut := h.fresh, objs := h.objs
    made := fun n b c o hn _ hE => by rw [h.fresh n hn] at hE; cases hE
    keep := fun _ _ _ => rfl
    newApart := fun n m o o' b c b' c' hn _ _ _ _ _ hE => by rw [h.fresh n hn] at hE; cases hE
    grow := Nat.le_refl _, os := rfl, tape := rfl, output := rfl }

theorem run_bytesOf {P : Program} {E : Env} {w : World} {nm off cap : Nat} {l : List Int} {x : Value} {b : Nat} {c : Cap} (hx : den E (.slice nm off l.length cap) = some x) (hE : E nm = some (b, c)) (ho : ObjR E w b c (.ro off (ints .u8 l))) :
    (Extern.Bytes.bytesOf x).run P w = .ok ⟨(bytesI l).toArray⟩ w := by
  obtain ⟨b', c', hb, rfl⟩ := slice_den hx
  rw [hE] at hb; cases hb
  obtain ⟨xs, hxs, hw, _⟩ := ho
  have : xs = l.map (Value.int .u8) := by have := hxs.1; rw [denL_ints] at this; exact (Option.some.inj this).symm
  subst this
  have := run_loadBytes (P := P) l off ByteArray.empty hw
  simp only [Extern.Bytes.bytesOf, this]
  congr 1
  apply ByteArray.ext; simp

/-- bytealg.Compare of two slices of bytes. -/
theorem meets_bytealg_compare {P : Program} {f : FuncId} {fn : Func} (hf : P.funcs[f]? = some fn) (h1 : (fn.name == "runtime.NumGoroutine") = false) (h2 : fn.body.isNone = true) (h3 : Extern.findNext fn = none) (h4 : Extern.find fn = some Extern.BytealgCompare.compare)
    (xs ys : List Int) (o1 o2 c1 c2 : Nat) (hx : ∀ x ∈ xs, 0 ≤ x ∧ x < 256) (hy : ∀ y ∈ ys, 0 ≤ y ∧ y < 256) :
    Meets P f [.slice 0 o1 xs.length c1, .slice 1 o2 ys.length c2] [.ro o1 (ints .u8 xs), .ro o2 (ints .u8 ys)] (.int .i64 (cmpI xs ys)) [.ro o1 (ints .u8 xs), .ro o2 (ints .u8 ys)] := by
  intro w E vs hvs hp
  obtain ⟨x, zs, hx1, hz, rfl⟩ := denL_cons.1 hvs
  obtain ⟨y, us, hy1, hu, rfl⟩ := denL_cons.1 hz
  simp only [denL, Option.some.injEq] at hu
  subst hu
  obtain ⟨b1, k1, e1, r1⟩ := hp.objs 0 _ rfl
  obtain ⟨b2, k2, e2, r2⟩ := hp.objs 1 _ rfl
  refine .inr ⟨.int .i64 (cmpI xs ys), w, ?_, E, _, rfl, rfl, PostR.same hp⟩
  rw [run_callFunc_extern hf h1 h2 h3 (e := Extern.BytealgCompare.compare) h4]
  have hc : Extern.BytealgCompare.compare [x, y].toArray = (do pure (goInt (Extern.BytealgCompare.cmp (← Extern.Bytes.bytesOf x) (← Extern.Bytes.bytesOf y))) : Sem Value) := rfl
  rw [hc]
  simp only [Sem.run_bind, run_bytesOf hx1 e1 r1, run_bytesOf hy1 e2 r2, Result.andThen_ok, Sem.run_pure, Lib.cmp_eq, goInt]
  rw [compareBytes_bytesI xs ys hx hy]

/-- abi.NoEscape: the pointer as it is. -/
theorem meets_noescape {P : Program} {f : FuncId} {fn : Func} (hf : P.funcs[f]? = some fn) (h1 : (fn.name == "runtime.NumGoroutine") = false) (h2 : fn.body.isNone = true) (h3 : Extern.findNext fn = none) (h4 : Extern.find fn = some Extern.AbiNoEscape.same) (off : Nat) :
    Meets P f [.ptr 0 off] [.ro 0 []] (.ptr 0 off) [.ro 0 []] := by
  intro w E vs hvs hp
  obtain ⟨x, zs, hx, hz, rfl⟩ := denL_cons.1 hvs
  simp only [denL, Option.some.injEq] at hz
  subst hz
  refine .inr ⟨x, w, ?_, E, x, rfl, hx, PostR.same hp⟩
  rw [run_callFunc_extern hf h1 h2 h3 (e := Extern.AbiNoEscape.same) h4]
  rfl

/-- Any block may be told as one of which nothing is known. -/
theorem fits_any {a : AObj} (r : List Nat) (hk : a.known.isSome = true) (hl : a.live = true) : Fits a (AObj.ren r (.ro 0 [])) := by
  obtain ⟨⟨o0, cs⟩, hk⟩ := Option.isSome_iff_exists.1 hk
  intro E w k c h
  exact ⟨[], ⟨rfl, rfl⟩, fun i x hi => by simp at hi, h.lt hl (by cases a <;> first | rfl | (simp [AObj.known] at hk))⟩

theorem byteI {c : Int} (h : 0 ≤ c ∧ c < 256) : (((UInt8.ofNat c.toNat).toNat : Nat) : Int) = c := by
  have : c.toNat < 256 := by omega
  simp
  omega
theorem u8s_snoc {s : List UInt8} {c : Int} (h : 0 ≤ c ∧ c < 256) : u8s s ++ [AV.int .u8 c] = u8s (s ++ [UInt8.ofNat c.toNat]) := by
  simp only [u8s, List.map_append, List.map_cons, List.map_nil, byteI h]

theorem EqR.to {P : Program} {t : TypeId} {x y : AV} {r r' : Bool} (h : EqR P t x y r) (e : r = r') : EqR P t x y r' := e ▸ h
theorem eqR_ints {P : Program} {t e : TypeId} {n : Nat} {k k' : IntKind} (hu : P.underlying t = some (.array n e)) (he : P.underlying e = some (.int k')) (hc : P.cellsOf e = 1) (xs ys : List Int) (hx : xs.length = n) (hy : ys.length = n) : EqR P t (.agg (ints k xs)) (.agg (ints k ys)) (decide (xs = ys)) := by
  intro E w a b ha hb
  obtain ⟨as, h1, rfl⟩ := denC_agg.1 ha
  obtain ⟨bs, h2, rfl⟩ := denC_agg.1 hb
  have e1 := h1.1
  have e2 := h2.1
  rw [denL_ints] at e1 e2
  cases e1; cases e2
  obtain ⟨i, hi⟩ := underlying_info he
  rw [run_equalIn_array w 9999 _ _ hu hi, hc, List.range_eq_range', eqItems_ints (D := 9998) he xs ys (by omega) n 0 (by omega)]
  rfl

end Go.Proofs.YtanhlbdcjonaoaaDoor.Sx
