import Derived.Test.YtphhepnldndbhaaGreatDoorGr01
import Derived.Lib.UnsafeStr
set_option linter.unusedSimpArgs false
set_option linter.unusedVariables false
namespace Go.Proofs.YtphhepnldndbhaaGreatDoor.Sx
open Go
variable {P : Program} {E : Env} {w : World}
theorem ok1_some {h : Hint} {q : Option (List Prop × AV)} {r : Res} (e : ok1 h q = some r) : ∃ ob v, q = some (ob, v) ∧ r = fin h ob v := by
  unfold ok1 at e
  simp only [Option.map_eq_some_iff] at e
  obtain ⟨⟨ob, v⟩, hq, rfl⟩ := e
  exact ⟨ob, v, hq, rfl⟩
theorem good_moveA {x : Operand} {ρ : Operand → Value} {o : Oper} (ho : o.op = .move x ∨ o.op = .assign x) {v : AV} {h : Hint} {F : Foot} {cs : List AObj} {r : Res} (hF : footV h v = F) (hp : Pre E w F cs) (hv : den E v = some (ρ x)) (hr : moveA h v cs = some r) (k : AllP r.obl) :
    Good E w F r.upd r.new r.val ((execOp ρ o).run P w) := by
  have hrun : (execOp ρ o).run P w = .ok (.value (ρ x)) w := by rcases ho with ho | ho <;> simp [execOp, ho]
  unfold moveA at hr
  split at hr
  · rename_i h0
    cases hr
    exact good_move ho (by rw [← hF]; simp only [footV, h0]) hv k
  · rename_i h1
    split at hr
    · rename_i kk hnm
      cases hr
      have hF' : F = ⟨[], [], [kk]⟩ := by rw [← hF]; simp only [footV, h1, hnm]
      subst hF'
      have hk : E kk = none := hp.fresh kk (by simp)
      have hx : ρ x = .slice none 0 0 := by simpa [den] using hv.symm
      refine ⟨_, w, E.set kk (0, { n := 0, z := true }), .inl hrun, by rw [hx]; simp [den, Env.set_same], ?_⟩
      exact {
        le := .set hk
        only := fun n hn => Env.set_other E _ (by simpa using hn)
        wrote := fun e => by cases e
        made := fun i n o' h1 h2 => by
          cases i with
          | zero => simp at h1 h2; subst h1; subst h2; exact ⟨_, _, Env.set_same E _ _, ⟨[], ⟨rfl, rfl⟩, fun _ => rfl, fun e => by cases e⟩, fun ht => by cases ht.1⟩
          | succ i => simp at h1
        keep := fun _ _ _ => rfl
        newApart := fun i j n m o1 o2 b c b' c' h1 h2 _ _ _ _ _ _ hne => by
          cases i with
          | zero => cases j with
            | zero => exact absurd rfl hne
            | succ j => simp at h2
          | succ i => simp at h1
        bare := fun n b c1 k1 hn he hu => by
          simp only [List.mem_singleton] at hn; subst hn
          rw [Env.set_same] at he; cases he; exact absurd hu (Cap.bare_of (fun _ _ => rfl) _)
        grow := Nat.le_refl _, os := rfl, tape := rfl, output := rfl }
    · cases hr
  · rename_i h2
    split at hr
    · rename_i nm len c t sz
      cases hr
      have hF' : F = ⟨[nm], [nm], []⟩ := by rw [← hF]; simp only [footV, h2]
      subst hF'
      obtain ⟨b, cp, hb, hob⟩ := hp.objs 0 nm _ rfl rfl
      obtain ⟨b', c', hb', hx⟩ := vec_den hv
      rw [hb] at hb'; cases hb'
      obtain ⟨c1, c2, c3⟩ := vec_cap hv hb
      refine ⟨_, w, E, .inl hrun, ?_, ?_⟩
      · rw [hx]; simp only [den, hb, Option.bind_some, c1, c2, Bool.false_eq_true, if_false]; rw [if_pos c3]
      · have hobj : ObjR E w b cp (.flat true c) := by
          obtain ⟨xs, hxs, hw⟩ := hob.window rfl
          refine ⟨xs, hxs, fun e => ?_, fun _ => ?_⟩
          · rw [c1] at e; cases e
          exact ⟨hob.lt rfl rfl, fun i x hi => by rw [c2]; exact hw i x hi⟩
        exact {
          le := .refl _, only := fun _ _ => rfl
          wrote := fun _ i n o' h1 h2 => by
            cases i with
            | zero => simp at h1 h2; subst h1; subst h2; exact ⟨b, cp, hb, hobj⟩
            | succ i => simp at h1
          made := fun i n o' h1 h2 => by simp at h1
          keep := fun _ _ _ => rfl
          newApart := fun i j n m o1 o2 b c b' c' h1 => by simp at h1
          bare := fun n b c k h1 => by simp at h1
          grow := Nat.le_refl _, os := rfl, tape := rfl, output := rfl }
    · cases hr
  · cases hr
theorem sealR_obl {h : Hint} {r : Res} : (sealR h r).obl = r.obl := by
  unfold sealR
  split
  · split <;> rfl
  · rfl
theorem good_seal {F : Foot} {h : Hint} {r : Res} {q : Result Next} (hg : Good E w F r.upd r.new r.val q) : Good E w F (sealR h r).upd (sealR h r).new (sealR h r).val q := by
  unfold sealR
  split
  · split
    · rename_i k n c t sz hv hn
      obtain ⟨x, w', E', hrun, hd, he⟩ := hg
      rw [hn] at he
      rw [hv] at hd
      refine ⟨x, w', E', hrun, ?_, ?_⟩
      · obtain ⟨b, c', hb, hx⟩ := vec_den hd
        obtain ⟨c1, c2, c3⟩ := vec_cap hd hb
        rw [hx]; simp only [den, hb, Option.bind_some, c1, c2, Bool.false_eq_true, if_false]; rw [if_pos c3]
      · exact { he with
          made := fun i n' o h1 h2 => by
            cases i with
            | zero =>
              simp at h2; subst h2
              obtain ⟨b, cp, hb, ho, hor⟩ := he.made 0 n' _ h1 rfl
              refine ⟨b, cp, hb, ?_, fun _ => (hor rfl).imp id fun h => h.imp id fun h => absurd h.1 (by simp [AObj.mine])⟩
              have hlt := ho.lt rfl rfl
              obtain ⟨xs, hxs, hw⟩ := ho.window rfl
              obtain ⟨_, _, _, _, _, c2, c1⟩ := ho
              refine ⟨xs, hxs, fun e => ?_, fun _ => ⟨hlt, fun i x hi => ?_⟩⟩
              · rw [c1] at e; cases e
              · rw [c2]; exact hw i x hi
            | succ i => simp at h2
          newApart := fun i j n' m o o' b cc b' c' h1 h2 g1 g2 w1 => by
            cases i with
            | zero => simp at g1; subst g1; cases w1
            | succ i => simp at g1 }
    · exact hg
  · exact hg
theorem lenA_run {t : TypeId} {x v : AV} {X : Value} (h : lenA P t x = some v) (hx : den E x = some X) (at_ : Array TypeId) (ht : at_[0]? = some t) (ty : TypeId) : ∃ z, (Builtin.len_ at_ ty #[X]).run P w = .ok z w ∧ den E v = some z := by
  unfold lenA at h
  split at h
  · rename_i s hu; cases h
    have hX : X = .string ⟨s.toArray⟩ := by simpa [den] using hx.symm
    subst hX
    refine ⟨.int .i64 s.length, ?_, rfl⟩
    have hsz : (ByteArray.mk s.toArray).size = s.length := rfl
    simp only [Builtin.len_, ht, List.getElem?_toArray, List.getElem?_cons_zero, Sem.run_bind, run_underlying' hu, Result.andThen_ok, hsz, Sem.run_pure, goInt]
  · rename_i n e hu; cases h
    exact ⟨_, by simp [Builtin.len_, ht, run_underlying' hu, goInt], rfl⟩
  · rename_i e nm off n c hu; cases h
    obtain ⟨b, c', _, rfl⟩ := slice_den hx
    exact ⟨_, by simp [Builtin.len_, ht, run_underlying' hu, goInt], rfl⟩
  · rename_i e nm n hu; cases h
    obtain ⟨b, c', _, rfl⟩ := vec_den hx
    exact ⟨_, by simp [Builtin.len_, ht, run_underlying' hu, goInt], rfl⟩
  · rename_i e hu; cases h
    have hX : X = .slice none 0 0 := by simpa [den] using hx.symm
    subst hX
    exact ⟨_, by simp [Builtin.len_, ht, run_underlying' hu, goInt], rfl⟩
  · rename_i e nm n hu; cases h
    obtain ⟨b, c', _, ⟨_, rfl, rfl⟩ | ⟨_, _, rfl⟩⟩ := dsl_den hx
    · exact ⟨_, by simp [Builtin.len_, ht, run_underlying' hu, goInt], rfl⟩
    · exact ⟨_, by simp [Builtin.len_, ht, run_underlying' hu, goInt], rfl⟩
  · rename_i e nm w' off n hu; cases h
    obtain ⟨b, c', _, _, _, rfl⟩ := vsl_den hx
    exact ⟨_, by simp [Builtin.len_, ht, run_underlying' hu, goInt], rfl⟩
  · cases h
theorem capA_run {t : TypeId} {x v : AV} {X : Value} (h : capA P t x = some v) (hx : den E x = some X) (at_ : Array TypeId) (ht : at_[0]? = some t) (ty : TypeId) : ∃ z, (Builtin.cap_ at_ ty #[X]).run P w = .ok z w ∧ den E v = some z := by
  unfold capA at h
  split at h
  · rename_i e nm off n c hu; cases h
    obtain ⟨b, c', _, rfl⟩ := slice_den hx
    exact ⟨_, by simp [Builtin.cap_, ht, run_underlying' hu, goInt], rfl⟩
  · rename_i e hu; cases h
    have hX : X = .slice none 0 0 := by simpa [den] using hx.symm
    subst hX
    exact ⟨_, by simp [Builtin.cap_, ht, run_underlying' hu, goInt], rfl⟩
  · cases h
theorem execOp_builtin1 {o : Oper} {ρ : Operand → Value} {c : Call} {b : Builtin} {v : Value} (ho : o.op = .call c) (hc : c.callee = .builtin b)
    (h : ∀ cb, (builtin b c.argTypes o.type cb (c.args.map ρ)).run P w = .ok (.value v) w) : (execOp ρ o).run P w = .ok (.value v) w := by
  simp only [execOp, ho, resolve, hc, Sem.run_bind, Sem.run_pure, Result.andThen_ok, invoke, h]
theorem args1 {c : Call} {ρ : Operand → Value} {b : Builtin} (hc : c.callee = .builtin b) {vs : List AV} (h : denL E vs = some ((Op.call c).operands.toList.map ρ)) : denL E vs = some (c.args.map ρ).toList := by
  simpa [Op.operands, Call.operands, hc] using h
theorem good_next {o : Oper} {ρ : Operand → Value} {p : Operand} {nm : Nat} {h : Hint} {cs : List AObj} {r : Res} {F : Foot} (ho : o.op = .next p true) (hx : den E (.ptr nm 0) = some (ρ p)) (hf : F = ⟨[nm], [nm], []⟩) (hp : Pre E w F cs)
    (hr : act P h (.next p true) [.ptr nm 0] cs = some r) (kk : AllP r.obl) : Good E w F r.upd r.new r.val ((execOp ρ o).run P w) := by
  obtain ⟨b, c, hb, hpx⟩ := ptr_den hx
  subst hf
  simp only [act] at hr
  split at hr
  · rename_i s pos pp cc hv
    split at hr
    · rename_i s' pos' hobj
      cases hr
      obtain ⟨h1, h2, h3, h4, h5, _⟩ := kk
      have h1 : s = s' := h1
      subst h1
      obtain ⟨b', c', hb', hob⟩ := hp.objs 0 nm _ rfl rfl
      rw [hb] at hb'; cases hb'
      have hob : w.heap[b]? = some (.stringIter ⟨s.toArray⟩ pos) := hob
      have hsz : (ByteArray.mk s.toArray).size = s.length := rfl
      have hlt : b < w.heap.size := (Array.getElem?_eq_some_iff.1 hob).1
      let w' : World := { w with heap := w.heap.setIfInBounds b (.stringIter ⟨s.toArray⟩ pos') }
      have hu : Upd b w w' := ⟨fun k hk => by simp only [w', Array.getElem?_setIfInBounds]; rw [if_neg (by omega)], by simp [w'], rfl, rfl, rfl⟩
      have hnew : w'.heap[b]? = some (.stringIter ⟨s.toArray⟩ pos') := by simp [w', hlt]
      refine ⟨.tuple #[.bool true, .int .i64 pp, .int .i32 cc], w', E, .inl ?_, by simp [den, denL], .write hb hnew hu⟩
      have hget : (getObj b).run P w = .ok (.stringIter ⟨s.toArray⟩ pos) w := by
        simp only [getObj, Sem.run, hob]
      have hset : (setObj b (.stringIter ⟨s.toArray⟩ (pos + (Utf8.decode ⟨s.toArray⟩ pos).2))).run P w = .ok () w' := by
        simp only [setObj, Sem.run, hob, h5]; rfl
      simp only [execOp, ho, Instr.next, hpx, Sem.run_bind, hget, Result.andThen_ok, hsz]
      rw [if_pos h2]
      generalize hdec : Utf8.decode ⟨s.toArray⟩ pos = d at *
      obtain ⟨dc, dw⟩ := d
      simp only [Sem.run_bind, hset, Result.andThen_ok, Sem.run_pure, goInt, h3, ← h4]
    · cases hr
  · rename_i s pos hv
    cases hr
    obtain ⟨h1, _⟩ := kk
    obtain ⟨b', c', hb', hob⟩ := hp.objs 0 nm _ rfl rfl
    rw [hb] at hb'; cases hb'
    have hob : w.heap[b]? = some (.stringIter ⟨s.toArray⟩ pos) := hob
    have hsz : (ByteArray.mk s.toArray).size = s.length := rfl
    refine ⟨.tuple #[.bool false], w, E, .inl ?_, by simp [den, denL], .write hb hob (.refl _ _)⟩
    have hget : (getObj b).run P w = .ok (.stringIter ⟨s.toArray⟩ pos) w := by
      simp only [getObj, Sem.run, hob]
    simp only [execOp, ho, Instr.next, hpx, Sem.run_bind, hget, Result.andThen_ok, hsz]
    rw [if_neg (by omega)]
    rfl
  · cases hr
theorem run_storeCells_obj {b off : Nat} {c : Cap} {vc : List AV} {vs : List Value} {o o1 : AObj} {off' : Nat} {cs : List AV} (hvs : denC E vc vs)
    (hb : ObjR E w b c o) (hk : o.known = some (off', cs)) (hs : o.setCells (cs.take off ++ vc ++ cs.drop (off + vc.length)) = some o1) (h2 : off + vc.length ≤ cs.length) :
    ∃ w', (storeCells ⟨b, off, none⟩ vs).run P w = .ok () w' ∧ ObjR E w' b c o1 ∧ Upd b w w' := by
  have hvl := qxu hvs
  cases o with
  | cells cs' ty =>
    simp only [AObj.known, Option.some.injEq, Prod.mk.injEq] at hk; obtain ⟨_, rfl⟩ := hk
    simp only [AObj.setCells, Option.some.injEq] at hs; subst hs
    obtain ⟨xs, hx, hw⟩ := hb
    have hl := qxu hx
    obtain ⟨w', hr, hw', hu⟩ := run_storeCells (P := P) vs xs off 0 w hw (.inl rfl) (by omega) hvs.2
    refine ⟨w', hr, ⟨_, ?_, hw'⟩, hu⟩
    rw [Nat.add_zero, over_eq _ _ _ (by omega), hvl]
    exact denC_append (denC_append (denC_take hx _) hvs) (denC_drop hx _)
  | vec cs' ty sz =>
    simp only [AObj.known, Option.some.injEq, Prod.mk.injEq] at hk; obtain ⟨_, rfl⟩ := hk
    simp only [AObj.setCells, Option.some.injEq] at hs; subst hs
    obtain ⟨xs, ys, hx, ⟨m, hw, hm⟩, hsp, hoz⟩ := hb
    have hl := qxu hx
    obtain ⟨w', hr, hw', hu⟩ := run_storeCells (P := P) vs (xs ++ ys) off 0 w hw hm (by simp; omega) hvs.2
    rw [Nat.add_zero, over_append (by omega)] at hw'
    refine ⟨w', hr, ⟨_, ys, ?_, ⟨m, hw', by simpa [over_length] using hm⟩, ?_, hoz⟩, hu⟩
    · rw [over_eq _ _ _ (by omega), hvl]
      exact denC_append (denC_append (denC_take hx _) hvs) (denC_drop hx _)
    · rw [← hsp]; simp [over_length]
  | ro a b => simp [AObj.setCells] at hs
  | flat m a => simp [AObj.setCells] at hs
  | flatR m sh rows => simp [AObj.setCells] at hs
  | flatN sh rows => simp [AObj.setCells] at hs
  | iter a b => simp [AObj.setCells] at hs
  | shut a b c => simp [AObj.setCells] at hs
  | mapS n ks => simp [AObj.setCells] at hs
  | loopR up n ix cs ps asg body => simp [AObj.setCells] at hs
  | dead => simp [AObj.setCells] at hs
theorem freeze_block {w : World} {b : Nat} {a : Array Value} {t : TypeId} {m : Nat × Nat} {n : Nat} (h : w.heap[b]? = some (.cells a t m)) : ∃ m', (w.freeze ⟨b, 0, none⟩ n).heap[b]? = some (.cells a t m') := by
  unfold World.freeze
  split
  · exact ⟨m, h⟩
  · simp only [Array.getElem?_modify, if_pos, h, Option.map_some]
    exact ⟨_, rfl⟩
theorem good_over {h : Hint} {ob : List Prop} {nm b off : Nat} {c : Cap} {vc : List AV} {vs : List Value} {v : AV} {x : Value} {o : AObj} {r : Res} {res : Result Next} (hp : Pre E w ⟨[nm], [nm], []⟩ [o]) (hb : E nm = some (b, c)) (hvs : denC E vc vs) (hd : den E v = some x)
    (hr : overA h ob off vc v o = some r) (kk : AllP r.obl) (hrun : ∀ w', (storeCells ⟨b, off, none⟩ vs).run P w = .ok () w' → res = .ok (.value x) w') :
    Good E w ⟨[nm], [nm], []⟩ r.upd r.new r.val res := by
  obtain ⟨b', c', hb', hob⟩ := hp.objs 0 nm o rfl rfl
  rw [hb] at hb'; cases hb'
  unfold overA at hr
  split at hr
  · rename_i o0 cs hk
    split at hr
    · rename_i o1 hs
      split at hr
      · cases hr
        obtain ⟨_, h2, h3, _⟩ := qzu.1 kk
        subst h3
        obtain ⟨w', hr', ho', hu⟩ := run_storeCells_obj (P := P) hvs hob hk hs h2
        exact ⟨x, w', E, .inl (hrun w' hr'), hd, .write hb ho' hu⟩
      · cases hr
        obtain ⟨_, h2, _⟩ := qzu.1 kk
        obtain ⟨w', hr', ho', hu⟩ := run_storeCells_obj (P := P) hvs hob hk hs h2
        exact ⟨x, w', E, .inl (hrun w' hr'), hd, .write hb ho' hu⟩
    · cases hr
  · cases hr
theorem zeroCells_eq (zs : List Value) (n : Nat) : (Builtin.zeroCells zs.toArray n).toList = (List.replicate n zs).flatten := by
  rw [← range_mod zs n, Builtin.zeroCells]
  simp
theorem execOp_builtinW {o : Oper} {ρ : Operand → Value} {c : Call} {b : Builtin} {v : Value} {w' : World} (ho : o.op = .call c) (hc : c.callee = .builtin b)
    (h : ∀ cb, (builtin b c.argTypes o.type cb (c.args.map ρ)).run P w = .ok (.value v) w') : (execOp ρ o).run P w = .ok (.value v) w' := by
  simp only [execOp, ho, resolve, hc, Sem.run_bind, Sem.run_pure, Result.andThen_ok, invoke, h]
theorem good_copy {o : Oper} {ρ : Operand → Value} {c : Call} {s x : AV} {X Y : Value} {h : Hint} {cs : List AObj} {r : Res} {e : TypeId} (ho : o.op = .call c) (hc : c.callee = .builtin .copy) (hX : c.args.map ρ = #[X, Y]) (hx : den E s = some X) (hy : den E x = some Y) (he : (c.argTypes[0]?).bind P.underlying = some (.slice e))
    (hp : Pre E w ⟨s.name ++ x.name, s.name, []⟩ cs) (hr : copyA P h e s x cs = some r) (kk : AllP r.obl) : Good E w ⟨s.name ++ x.name, s.name, []⟩ r.upd r.new r.val ((execOp ρ o).run P w) := by
  unfold copyA at hr
  split at hr
  · rename_i ie nm off len cap ob0 cx hi
    split at hr
    · rename_i o0 oc ob n cc hk hel
      split at hr
      · rename_i o1 hs
        have key : ∃ o2, r.upd = o2 :: cx ∧ r.new = [] ∧ r.val = .int .i64 n ∧ o1 = o2 ∧ AllP ob ∧ n ≤ len ∧ off + cc.length ≤ oc.length := by
          split at hr
          · cases hr
            obtain ⟨k1, k2, k3, k4, _⟩ := qzu.1 kk
            exact ⟨_, rfl, rfl, rfl, k4, k1, k2, k3⟩
          · cases hr
            obtain ⟨k1, k2, k3, _⟩ := qzu.1 kk
            exact ⟨_, rfl, rfl, rfl, rfl, k1, k2, k3⟩
        obtain ⟨o2, e1, e2, e3, rfl, k1, k2, k3⟩ := key
        rw [e1, e2, e3]
        obtain ⟨b, cp, hb, rfl⟩ := slice_den hx
        have hp' : Pre E w ⟨nm :: x.name, [nm], []⟩ (ob0 :: cx) := hp
        obtain ⟨b', cp', hb', hob⟩ := hp'.objs 0 nm ob0 rfl rfl
        rw [hb] at hb'; cases hb'
        obtain ⟨xs, hxs, hlen, hrn⟩ := elemsA_run (P := P) hel k1 hy (fun i m o1 h1 h2 => hp'.objs (i + 1) m o1 (by simpa using h1) (by simpa using h2))
        obtain ⟨r1, r2⟩ := hrn w rfl
        obtain ⟨w', hr', ho', hu⟩ := run_storeCells_obj (P := P) hxs hob hk hs k3
        obtain ⟨t0, h0, hu0⟩ := Option.bind_eq_some_iff.1 he
        have hsz : P.cellsOf e = ie.size := by simp [Program.cellsOf, hi]
        refine ⟨.int .i64 n, w', E, .inl (execOp_builtinW ho hc fun cb => ?_), rfl, {
          le := .refl _, only := fun _ _ => rfl
          wrote := fun _ i n' o' h1 h2 => by
            cases i with
            | zero => simp [AV.name] at h1 h2; subst h1; subst h2; exact ⟨b, cp, hb, ho'⟩
            | succ i =>
              have h1 : x.name[i]? = some n' := by simpa [AV.name] using h1
              have h2 : cx[i]? = some o' := by simpa using h2
              obtain ⟨b2, c2, hb2, hob2⟩ := hp'.objs (i + 1) n' o' (by simpa using h1) (by simpa using h2)
              refine ⟨b2, c2, hb2, ?_⟩
              cases hl : o'.live with
              | false => cases o' <;> simp [AObj.live] at hl; trivial
              | true =>
                have hown : ob0.owned = true := by cases ob0 <;> first | rfl | simp [AObj.setCells] at hs
                have hne : nm ≠ n' := by
                  have := hp'.rdNodup rfl
                  rintro rfl
                  exact (List.nodup_cons.1 this).1 (List.mem_of_getElem? h1)
                refine hob2.block (fun _ ht => hu.keep b2 ?_) fun _ k hk => hu.keep k fun e => (hp'.nest n' b2 c2 k hb2 hk).2 0 nm ob0 cp rfl rfl hown (e ▸ hb)
                rintro rfl
                exact hp'.apart 0 (i + 1) nm n' ob0 o' b2 cp b2 c2 rfl (by simpa using h1) rfl (by simpa using h2) hown hl hb hb2 hne ht
          made := fun i n o h1 => by simp at h1
          keep := fun k hk hne => hu.keep k (by rintro rfl; exact hne nm (by simp [AV.name]) cp hb)
          newApart := fun i j n m o1 o2 b c b' c' h1 => by simp at h1
          bare := fun n b c k h1 => by simp at h1
          grow := by rw [hu.size]; exact Nat.le_refl _
          os := hu.os, tape := hu.tape, output := hu.output }⟩
        have hmin : Nat.min n len = n := Nat.min_eq_left k2
        simp only [hX, builtin, Sem.run_bind, Builtin.copy_, h0, List.getElem?_toArray, List.getElem?_cons_zero, List.getElem?_cons_succ, run_underlying' hu0, Result.andThen_ok, Sem.run_pure, r1, run_sizeOf' hi, hsz, hmin, r2, hr', goInt]
      · cases hr
    · cases hr
  · cases hr
theorem clear_run {at_ : Array TypeId} {t e ty : TypeId} {Z : Value} {zs : List Value} {b off len cap : Nat} {w' : World} (ht : at_[0]? = some t) (hu : P.underlying t = some (.slice e)) (hZ : (zeroValue e).run P w = .ok Z w) (hze : Z.cells = zs.toArray)
    (hw' : (storeCells ⟨b, off, none⟩ (List.replicate len zs).flatten).run P w = .ok () w') : (Builtin.clear_ at_ ty #[.slice (some ⟨b, off, none⟩) len cap]).run P w = .ok (.tuple #[]) w' := by
  cases len with
  | zero =>
    have e : w' = w := by
      have h2 : (storeCells ⟨b, off, none⟩ ([] : List Value)).run P w = .ok () w := by simp [storeCells]
      simp only [List.replicate_zero, List.flatten_nil] at hw'
      rw [h2] at hw'; cases hw'; rfl
    subst e
    simp only [Builtin.clear_, ht, List.getElem?_toArray, List.getElem?_cons_zero, Sem.run_bind, run_underlying' hu, Result.andThen_ok, Sem.run_pure]
  | succ n =>
    rw [← zeroCells_eq] at hw'
    simp only [Builtin.clear_, ht, List.getElem?_toArray, List.getElem?_cons_zero, Sem.run_bind, run_underlying' hu, Result.andThen_ok, Sem.run_pure, hZ, hze, hw']
theorem good_clear {o : Oper} {ρ : Operand → Value} {c : Call} {x : AV} {X : Value} {h : Hint} {cs : List AObj} {r : Res} (ho : o.op = .call c) (hc : c.callee = .builtin .clear) (hX : c.args.map ρ = #[X]) (hx : den E x = some X)
    (hp : Pre E w ⟨x.name, x.name, []⟩ cs) (hr : clearA P h c x cs = some r) (kk : AllP r.obl) : Good E w ⟨x.name, x.name, []⟩ r.upd r.new r.val ((execOp ρ o).run P w) := by
  unfold clearA at hr
  split at hr
  · rename_i e hu0
    obtain ⟨t, ht, hu⟩ := Option.bind_eq_some_iff.1 hu0
    split at hr
    · rename_i z hz
      split at hr
      · cases hr
      · rename_i hn
        have hn : z.notTuple = true := by simpa using hn
        obtain ⟨Z, hZ, hd⟩ := run_zeroValue (w := w) (E := E) hz
        obtain ⟨zs, hzs, hze⟩ := notTuple_cells hn hd
        split at hr
        · cases hr
          have e : X = .slice none 0 0 := by simpa [den] using hx.symm
          subst e
          refine Good.pure rfl rfl (x := .tuple #[]) (execOp_builtinW ho hc fun cb => ?_) rfl
          simp only [hX, builtin, Builtin.clear_, ht, List.getElem?_toArray, List.getElem?_cons_zero, Sem.run_bind, run_underlying' hu, Result.andThen_ok, Sem.run_pure]
        · rename_i nm off len cap o'
          obtain ⟨b, c', hb, rfl⟩ := slice_den hx
          refine good_over (P := P) hp hb (denC_flat hzs len) (x := .tuple #[]) rfl hr kk fun w' hw' => execOp_builtinW ho hc fun cb => ?_
          simp only [hX, builtin, Sem.run_bind, clear_run ht hu hZ hze hw', Result.andThen_ok, Sem.run_pure]
        · rename_i nm len o'
          obtain ⟨b, c', hb, rfl⟩ := vec_den hx
          refine good_over (P := P) hp hb (denC_flat hzs len) (x := .tuple #[]) rfl hr kk fun w' hw' => execOp_builtinW ho hc fun cb => ?_
          simp only [hX, builtin, Sem.run_bind, clear_run ht hu hZ hze hw', Result.andThen_ok, Sem.run_pure]
        · cases hr
    · cases hr
  · cases hr
def Op.calls : Op → Bool
  | .call c => match c.callee with | .builtin _ => false | _ => true
  | _ => false
theorem act_sound {o : Oper} {ρ : Operand → Value} {h : Hint} {vals : List AV} {F : Foot} {cs : List AObj} {r : Res} (hv : denL E vals = some (o.op.operands.toList.map ρ)) (hf : foot h o.op vals = some F) (hp : Pre E w F cs)
    (hr : act P h o.op vals cs = some r) (kk : AllP r.obl) : Good E w F r.upd r.new r.val ((execOp ρ o).run P w) := by
  generalize ho : o.op = op at hv hf hr
  unfold act at hr
  split at hr
  ·
    simp only [foot, Option.some.injEq] at hf
    exact good_moveA (.inl ho) hf hp (den1 (by simpa [Op.operands] using hv)) hr kk
  · simp only [foot, Option.some.injEq] at hf
    exact good_moveA (.inr ho) hf hp (den1 (by simpa [Op.operands] using hv)) hr kk
  ·
    rename_i pc pa pb c a b
    cases hr; simp only [foot, Option.some.injEq] at hf
    simp only [Op.operands, List.map_cons, List.map_nil] at hv
    obtain ⟨h1, hv⟩ := denL_split hv
    obtain ⟨h2, h3⟩ := den2 hv
    have hc : ρ pc = .bool c := by simpa [den] using h1.symm
    refine good_fin (x := if c then ρ pa else ρ pb) (by rw [← hf]; rfl) (by rw [← hf]; rfl) kk fun _ => ⟨?_, by split <;> assumption⟩
    simp [execOp, ho, hc, asBool]
  ·
    rename_i t
    split at hr
    · rename_i z k hz hnm
      split at hr
      · rename_i hn
        cases hr; simp only [foot, Option.some.injEq] at hf
        rw [hnm] at hf; subst hf
        exact good_new kk fun _ => good_alloc ho hz hn (hp.fresh k (by simp))
      · cases hr
    · cases hr
  ·
    rename_i t p v
    split at hr
    · rename_i k hnm
      split at hr
      · rename_i hn
        cases hr; simp only [foot, Option.some.injEq] at hf
        rw [hnm] at hf; subst hf
        exact good_new kk fun _ => good_box ho (den1 (by simpa [Op.operands] using hv)) hn (hp.fresh k (by simp))
      · cases hr
    · cases hr
  ·
    rename_i t ps
    split at hr
    · rename_i ob c hb
      split at hr
      · rename_i hps
        cases hr
        have hF : F = .no := by
          cases vals with
          | nil => simp only [foot, Option.some.injEq] at hf; exact hf.symm
          | cons a vs => simp only [foot, Option.some.injEq] at hf; exact hf.symm
        have hps : ps.size = vals.length := by simpa using hps
        have hv' : denL E vals = some (ps.toList.map fun p => ρ p.2) := by
          rw [hv]; simp [Op.operands]
        obtain ⟨p1, p2⟩ := partsA_spec (E := E) (ρ := ρ) ps.toList vals (by simpa using hps) hv'
        obtain ⟨h1, e1, e2, e3⟩ := fin_spec kk
        obtain ⟨x, hx, hd⟩ := buildA_run (w := w) (qs := ps.toList.map fun p => (p.1, ρ p.2)) hb h1 (by rw [p1]; simp) (by rw [p2]; simp)
        rw [e1, e3]
        refine Good.pure (by rw [hF]; rfl) (by rw [hF]; rfl) ?_ hd
        have ee : (ps.map fun (i, x) => (i, ρ x)) = (ps.toList.map fun p => (p.1, ρ p.2)).toArray := by apply Array.ext'; simp
        simp [execOp, ho, ee, hx]
      · cases hr
    · cases hr
  ·
    rename_i t len ps
    split at hr
    · rename_i e k hu hnm
      split at hr
      · rename_i ie z hi hz
        split at hr
        · rename_i hc
          simp only [Bool.and_eq_true, decide_eq_true_eq, beq_iff_eq] at hc
          obtain ⟨⟨⟨⟨⟨c1, c3⟩, c4⟩, c5⟩, c6⟩, c7⟩ := hc
          split at hr
          · rename_i ob c hfl
            have hF : F = ⟨[], [], [k]⟩ := by
              cases vals with
              | nil => simp only [foot, Option.some.injEq] at hf; rw [← hf, hnm]
              | cons a vs => simp only [foot, Option.some.injEq] at hf; rw [← hf, hnm]
            subst hF
            split at hr
            · cases hr
              exact good_seal (good_buildVec ho (by rw [hv]; simp [Op.operands]) hu hi hz c1 c3 c4 c5 c6 c7 (hp.fresh k (by simp)) hfl rfl (by rw [← sealR_obl (h := h)]; exact kk))
            · cases hr
              exact good_buildSlice ho (by rw [hv]; simp [Op.operands]) hu hi hz c1 c3 c4 c5 c6 c7 (hp.fresh k (by simp)) hfl rfl kk
          · cases hr
        · cases hr
      · cases hr
    · cases hr
  ·
    rename_i t p q k1 len k2 cap
    split at hr
    · rename_i e k hu hnm
      split at hr
      · rename_i ie z hi hz
        split at hr
        · rename_i hc
          simp only [Bool.and_eq_true, decide_eq_true_eq, beq_iff_eq] at hc
          obtain ⟨⟨c1, c2⟩, c3⟩ := hc
          simp only [foot, Option.some.injEq] at hf
          rw [hnm] at hf; subst hf
          obtain ⟨h1, h2⟩ := den2 (by simpa [Op.operands] using hv)
          split at hr
          · cases hr; exact good_makeVec ho h1 h2 hu hi hz c1 c2 c3 (hp.fresh k (by simp)) rfl kk
          · cases hr; exact good_makeSlice ho h1 h2 hu hi hz c1 c2 c3 (hp.fresh k (by simp)) rfl kk
        · cases hr
      · cases hr
    · cases hr
  ·
    rename_i t p nm off
    simp only [foot, Option.some.injEq] at hf; subst hf
    split at hr
    · exact good_load ho (den1 (by simpa [Op.operands] using hv)) hp hr kk
    · cases hr
  ·
    rename_i t p nm off
    simp only [foot, Option.some.injEq] at hf; subst hf
    split at hr
    · split at hr
      · rename_i hkn
        exact good_loadD ho (den1 (by simpa [Op.operands] using hv)) hp hkn hr kk
      · cases hr
    · cases hr
  ·
    rename_i t p nm w' i j
    by_cases h6 : h.view = 6
    · simp only [foot, if_pos h6, Option.some.injEq] at hf; subst hf
      rw [if_pos h6] at hr
      split at hr
      · rename_i hnm
        rw [hnm] at hp ⊢
        exact good_loadN ho (den1 (by simpa [Op.operands] using hv)) hp hr kk
      · cases hr
    simp only [foot, if_neg h6, Option.some.injEq] at hf; subst hf
    rw [if_neg h6] at hr
    split at hr
    · exact good_loadR ho (den1 (by simpa [Op.operands] using hv)) hp hr kk
    · exact good_load ho (rptr_vec (den1 (by simpa [Op.operands] using hv)) hp) hp hr kk
    · cases hr
  ·
    rename_i t p g off
    simp only [foot, Option.some.injEq] at hf; subst hf
    split at hr
    · rename_i l hg
      split at hr
      · rename_i q hq
        cases hr
        obtain ⟨g1, _, g3⟩ := hp.glob.all hg
        have hx : ρ p = .pointer (some ⟨g, off, none⟩) := by simpa [den] using (den1 (by simpa [Op.operands] using hv) : den E (.gptr g off) = some (ρ p)).symm
        exact good_loadG (r := q) ho (denC_gAll E hg) hx (g3 := g3) hq kk
      · cases hr
    · cases hr
  ·
    rename_i t p q nm off v
    simp only [foot, Option.some.injEq] at hf; subst hf
    obtain ⟨h1, h2⟩ := den2 (by simpa [Op.operands] using hv)
    split at hr
    · exact good_store ho h1 h2 hp hr kk
    · cases hr
  ·
    rename_i t p q nm w' i j v
    simp only [foot, Option.some.injEq] at hf; subst hf
    obtain ⟨h1, h2⟩ := den2 (by simpa [Op.operands] using hv)
    split at hr
    · exact good_store ho (rptr_vecW h1 hp) h2 hp hr kk
    · cases hr
  ·
    rename_i p nm off
    cases hr; simp only [foot, Option.some.injEq] at hf
    have h1 := den1 (by simpa [Op.operands] using hv)
    obtain ⟨b, c, hb, hpx⟩ := ptr_den h1
    refine good_fin (x := ρ p) (by rw [← hf]; rfl) (by rw [← hf]; rfl) kk fun _ => ⟨?_, h1⟩
    simp [execOp, ho, hpx]
  · rename_i p nm off
    cases hr; simp only [foot, Option.some.injEq] at hf
    have h1 := den1 (by simpa [Op.operands] using hv)
    have hpx : ρ p = .pointer (some ⟨nm, off, none⟩) := by simpa [den] using h1.symm
    refine good_fin (x := ρ p) (by rw [← hf]; rfl) (by rw [← hf]; rfl) kk fun _ => ⟨?_, h1⟩
    simp [execOp, ho, hpx]
  · rename_i p f a c
    cases hr; simp only [foot, Option.some.injEq] at hf
    have h1 := den1 (by simpa [Op.operands] using hv)
    refine good_fin (x := ρ p) (by rw [← hf]; rfl) (by rw [← hf]; rfl) kk fun _ => ⟨?_, h1⟩
    simp only [den] at h1
    split at h1
    · obtain ⟨nm, p', _, _, _, hpx⟩ := yfOf_some h1
      simp [execOp, ho, hpx]
    · split at h1
      · have hpx := (Option.some.inj h1).symm
        simp [execOp, ho, hpx]
      · cases h1
  ·
    rename_i op t p q yt x y
    split at hr
    · simp only [foot, Option.some.injEq] at hf
      obtain ⟨h1, h2⟩ := den2 (by simpa [Op.operands] using hv)
      unfold eqA at hr
      split at hr
      · cases hr
      · rename_i hg
        split at hr
        · rename_i a b r hval
          cases hr
          obtain ⟨k1, _⟩ := kk
          have k1 := k1 E w _ _ h1 h2
          obtain ⟨as, ha, e1⟩ := denC_agg.1 h1
          obtain ⟨bs, hb, e2⟩ := denC_agg.1 h2
          rw [e1, e2] at k1
          refine Good.pure (by rw [← hf]; rfl) (by rw [← hf]; rfl) (x := .bool r) ?_ rfl
          simp only [execOp, ho, e1, e2, Sem.run_bind, eqGuard_agg (by simpa using hg), Result.andThen_ok, binOp, Op.equal, Op.maxDepth, k1, Sem.run_pure]
        · rename_i a b r hval
          cases hr
          obtain ⟨k1, _⟩ := kk
          have k1 := k1 E w _ _ h1 h2
          obtain ⟨as, ha, e1⟩ := denC_agg.1 h1
          obtain ⟨bs, hb, e2⟩ := denC_agg.1 h2
          rw [e1, e2] at k1
          refine Good.pure (by rw [← hf]; rfl) (by rw [← hf]; rfl) (x := .bool (!r)) ?_ rfl
          simp only [execOp, ho, e1, e2, Sem.run_bind, eqGuard_agg (by simpa using hg), Result.andThen_ok, binOp, Op.equal, Op.maxDepth, k1, Sem.run_pure]
        · cases hr
    simp only [foot, Option.some.injEq] at hf
    obtain ⟨h1, h2⟩ := den2 (by simpa [Op.operands] using hv)
    split at hr
    · rename_i r hnil
      cases hr
      refine good_fin (x := .bool r) (by rw [← hf]; rfl) (by rw [← hf]; rfl) kk fun _ => ⟨?_, rfl⟩
      have := nilEq_run (P := P) (w := w) (op := .eql) (.inl rfl) h1 h2 hnil
      simp only [execOp, ho, Sem.run_bind, if_true] at this ⊢
      rw [this]; rfl
    · rename_i r hnil
      cases hr
      refine good_fin (x := .bool (!r)) (by rw [← hf]; rfl) (by rw [← hf]; rfl) kk fun _ => ⟨?_, rfl⟩
      have := nilEq_run (P := P) (w := w) (op := .neq) (.inr rfl) h1 h2 hnil
      simp only [execOp, ho, Sem.run_bind] at this ⊢
      rw [this]; rfl
    obtain ⟨ob, v, hq, rfl⟩ := ok1_some hr
    obtain ⟨g1, e1, e2, e3⟩ := fin_spec kk
    obtain ⟨z, hz, hd⟩ := binA_run (w := w) (p := p) (q := q) h1 h2 hq g1
    rw [e1, e3]
    refine Good.pure (by rw [← hf]; rfl) (by rw [← hf]; rfl) ?_ hd
    simp only [execOp, ho, Sem.run_bind] at hz ⊢
    rw [hz]; rfl
  ·
    rename_i op t p x
    obtain ⟨ob, v, hq, rfl⟩ := ok1_some hr
    simp only [foot, Option.some.injEq] at hf
    have h1 := den1 (by simpa [Op.operands] using hv)
    obtain ⟨g1, e1, e2, e3⟩ := fin_spec kk
    obtain ⟨z, hz, hd⟩ := unA_run (P := P) (w := w) h1 hq
    rw [e1, e3]
    refine Good.pure (by rw [← hf]; rfl) (by rw [← hf]; rfl) ?_ hd
    simp only [execOp, ho, Sem.run_bind, hz]; rfl
  ·
    rename_i src dst p x
    have h1 := den1 (by simpa [Op.operands] using hv)
    split at hr
    · rename_i d e s k hs hd hnm
      split at hr
      · rename_i he
        cases hr; simp only [foot, Option.some.injEq] at hf
        rw [hnm] at hf; subst hf
        exact good_new kk fun _ => good_bytes ho h1 hs hd he (hp.fresh k (by simp))
      · cases hr
    · rename_i e hs hd hnm
      split at hr
      · rename_i he
        cases hr; simp only [foot, Option.some.injEq] at hf
        have hpx : ρ p = .slice none 0 0 := by simpa [den] using h1.symm
        refine good_fin (x := .string ByteArray.empty) (by rw [← hf]; rfl) (by rw [← hf]) kk fun _ => ⟨?_, rfl⟩
        simp [execOp, ho, hpx, convert, run_underlying' hs, run_underlying' hd, run_underlying' he, Conv.bytesToString]
      · cases hr
    · rename_i x' _ _ _ _ _ e o' hs hd hnm
      split at hr
      · cases hr
      rename_i hnd0
      have hnd : x'.isDsl = false := by simpa using hnd0
      split at hr
      · rename_i _ _ _ ob n c s he hel hval
        cases hr
        obtain ⟨k1, k2, _⟩ := qzu.1 kk |>.imp id id
        have hF : F = ⟨x'.name, [], []⟩ := by
          unfold elemsA at hel
          split at hel
          · rename_i h0; exact absurd h0 (by simp)
          · rename_i h0; exact absurd h0 (by simp)
          · simp only [foot, Option.some.injEq] at hf; exact hf.symm
          · simp only [foot, Option.some.injEq] at hf; exact hf.symm
          · simp [AV.isDsl] at hnd
          · simp only [foot, Option.some.injEq] at hf; exact hf.symm
          · cases hel
        exact good_string ho h1 hs hd he hF hp hel k1 k2 hnd
      · cases hr
    · rename_i t nm off c ty hs hd hnm
      split at hr
      · rename_i j hj
        split at hr
        · rename_i hsz
          cases hr
          simp only [foot, Option.some.injEq] at hf
          subst hf
          obtain ⟨k1, _⟩ := kk
          obtain ⟨b, c', hb, hpx⟩ := ptr_den h1
          obtain ⟨b', c'', hb', xs, hxs, hw⟩ := hp.objs 0 nm _ rfl rfl
          rw [hb] at hb'; cases hb'
          have hl := qxu hxs
          refine Good.pure rfl rfl (x := ρ p) ?_ h1
          have := Lib.run_to_unsafe (P := P) w (src := src) (dst := dst) (e := ty) (cells := xs.toArray.size) ⟨b, off, none⟩ hs hd hj hsz (by simp [World.shape?, hw]) (by have k1 : off < c.length := k1; simp; omega)
          simp only [execOp, ho, Sem.run_bind, hpx, this, Result.andThen_ok, Sem.run_pure]
        · cases hr
      · cases hr
    · rename_i u nm off c ty hs hd hnm
      split at hr
      · rename_i j hj
        cases hr
        simp only [foot, Option.some.injEq] at hf
        subst hf
        obtain ⟨k1, _⟩ := kk
        obtain ⟨b, c', hb, hpx⟩ := ptr_den h1
        obtain ⟨b', c'', hb', xs, hxs, hw⟩ := hp.objs 0 nm _ rfl rfl
        rw [hb] at hb'; cases hb'
        have hl := qxu hxs
        refine Good.pure rfl rfl (x := ρ p) ?_ h1
        have := Lib.run_from_unsafe (P := P) w (src := src) (dst := dst) (e := ty) (cells := xs.toArray.size) ⟨b, off, none⟩ hs hd hj (by simp [World.shape?, hw]) (by
          have k1 : liesAt P P.depth ty (c.length / P.cellsOf ty) off u 1 = true := k1
          simpa [hl] using k1)
        simp only [execOp, ho, Sem.run_bind, hpx, this, Result.andThen_ok, Sem.run_pure]
      · cases hr
    · rename_i x' _ _ _ _ _ hnm _
      obtain ⟨ob, v, hq, rfl⟩ := ok1_some hr
      have hF : F.wr = false ∧ F.al = [] := by
        cases x' <;> simp only [foot, Option.some.injEq] at hf <;> subst hf <;> exact ⟨rfl, by first | rfl | exact hnm⟩
      obtain ⟨g1, e1, e2, e3⟩ := fin_spec kk
      obtain ⟨z, hz, hd⟩ := convA_run (w := w) h1 hq
      rw [e1, e3]
      refine Good.pure hF.1 hF.2 ?_ hd
      simp only [execOp, ho, Sem.run_bind, hz]; rfl
    · cases hr
  ·
    rename_i t p v
    simp only [foot, Option.some.injEq] at hf
    have h1 := den1 (by simpa [Op.operands] using hv)
    split at hr
    · cases hr
    · rename_i d hni hu
      split at hr
      · cases hr
        refine good_fin (x := .iface t (ρ p)) (by rw [← hf]; rfl) (by rw [← hf]; rfl) kk fun _ => ⟨?_, by simp [den, h1]⟩
        simp only [execOp, ho, Instr.makeInterface, Sem.run_bind, run_underlying' hu, Result.andThen_ok]
        cases d <;> first | rfl | exact absurd rfl (hni _)
      · cases hr
    · cases hr
  ·
    rename_i f a c
    split at hr
    · rename_i hl
      simp only [Bool.and_eq_true, Bool.not_eq_true'] at hl
      obtain ⟨hl, hfy⟩ := hl
      have hfy : f ≠ yF := fun e => by rw [e, Nat.beq_refl] at hfy; cases hfy
      cases hr
      have hF : F = .no := by
        cases vals with
        | nil => simp only [foot, Option.some.injEq] at hf; exact hf.symm
        | cons a vs => simp only [foot, Option.some.injEq] at hf; exact hf.symm
      have hv' : denL E vals = some ((a.map ρ).toList ++ (c.map ρ).toList) := by rw [hv]; simp [Op.operands]
      have h1 : denL E (vals.take a.size) = some (a.map ρ).toList := by
        have := denL_take hv' a.size; rw [this]; simp
      have h2 : denL E (vals.drop a.size) = some (c.map ρ).toList := by
        have := denL_drop hv' a.size; rw [this]; simp
      refine good_fin (x := .func (.func f) (a.map ρ) (c.map ρ)) (by rw [hF]; rfl) (by rw [hF]; rfl) kk fun _ => ⟨?_, by simp [den, h1, h2, hfy]; constructor <;> (apply Array.ext'; simp)⟩
      simp only [execOp, ho, Instr.makeFunc, Sem.run_bind]; rfl
    · cases hr
  ·
    rename_i t p lo hi mx x vs
    split at hr
    · cases hr
    · rename_i hm
      rw [operands_slice] at hv
      simp only [List.map_cons] at hv
      obtain ⟨h1, h2⟩ := denL_split hv
      exact good_sliceE ho h1 h2 hf hp (by intro hh; cases hi <;> simp_all) hr kk
  ·
    rename_i t p f nm off
    simp only [foot, Option.some.injEq] at hf
    split at hr
    · rename_i fs hu
      split at hr
      · rename_i fd hfd
        split at hr
        · rename_i hc
          simp only [Bool.and_eq_true, decide_eq_true_eq] at hc
          obtain ⟨i, hi⟩ := Option.isSome_iff_exists.1 hc.1
          cases hr
          obtain ⟨b, c, hb, hpx⟩ := ptr_den (den1 (by simpa [Op.operands] using hv))
          refine good_fin (x := .pointer (some ⟨b, off + fd.offset, none⟩)) (by rw [← hf]; rfl) (by rw [← hf]; rfl) kk fun _ => ⟨?_, by simp [den, hb]⟩
          simp only [execOp, ho, Instr.fieldAt, Sem.run_bind, run_underlying' hu, Result.andThen_ok, hfd, hpx, Instr.sureAddr, Sem.run_pure, fieldPlace, run_sizeOf' hi]
          rw [if_neg hc.2]
          simp only [Sem.run_pure, Result.andThen_ok, Addr.add_none]
        · cases hr
      · cases hr
    · cases hr
  ·
    rename_i t p f nm off
    simp only [foot, Option.some.injEq] at hf
    split at hr
    · rename_i fs hu
      split at hr
      · rename_i fd hfd
        split at hr
        · rename_i hc
          simp only [Bool.and_eq_true, decide_eq_true_eq] at hc
          obtain ⟨i, hi⟩ := Option.isSome_iff_exists.1 hc.1
          cases hr
          obtain ⟨b, c, hb, hz, hpx⟩ := dptr_den (den1 (by simpa [Op.operands] using hv))
          refine good_fin (x := .pointer (some ⟨b, c.o + (off + fd.offset), none⟩)) (by rw [← hf]; rfl) (by rw [← hf]; rfl) kk fun _ => ⟨?_, by simp [den, hb, hz]⟩
          simp only [execOp, ho, Instr.fieldAt, Sem.run_bind, run_underlying' hu, Result.andThen_ok, hfd, hpx, Instr.sureAddr, Sem.run_pure, fieldPlace, run_sizeOf' hi]
          rw [if_neg hc.2]
          simp only [Sem.run_pure, Result.andThen_ok, Addr.add_none, Nat.add_assoc]
        · cases hr
      · cases hr
    · cases hr
  ·
    rename_i t p f nm w' i0 j
    simp only [foot, Option.some.injEq] at hf
    split at hr
    · rename_i fs hu
      split at hr
      · rename_i fd hfd
        split at hr
        · rename_i hc
          simp only [Bool.and_eq_true, decide_eq_true_eq] at hc
          obtain ⟨i, hi⟩ := Option.isSome_iff_exists.1 hc.1
          cases hr
          obtain ⟨b, c, hb, hz, hpx⟩ := rptr_den (den1 (by simpa [Op.operands] using hv))
          refine good_fin (x := .pointer (some ⟨b, c.o + (i0 * w' + (j + fd.offset)), none⟩)) (by rw [← hf]; rfl) (by rw [← hf]; rfl) kk fun _ => ⟨?_, by simp [den, hb, hz]⟩
          simp only [execOp, ho, Instr.fieldAt, Sem.run_bind, run_underlying' hu, Result.andThen_ok, hfd, hpx, Instr.sureAddr, Sem.run_pure, fieldPlace, run_sizeOf' hi]
          rw [if_neg hc.2]
          simp only [Sem.run_pure, Result.andThen_ok, Addr.add_none, Nat.add_assoc]
        · cases hr
      · cases hr
    · cases hr
  ·
    rename_i t p f nm off
    simp only [foot, Option.some.injEq] at hf
    split at hr
    · rename_i fs hu
      split at hr
      · rename_i fd hfd
        split at hr
        · rename_i hc
          simp only [Bool.and_eq_true, decide_eq_true_eq] at hc
          obtain ⟨i, hi⟩ := Option.isSome_iff_exists.1 hc.1
          cases hr
          have hpx : ρ p = .pointer (some ⟨nm, off, none⟩) := by simpa [den] using (den1 (by simpa [Op.operands] using hv) : den E (.gptr nm off) = some (ρ p)).symm
          refine good_fin (x := .pointer (some ⟨nm, off + fd.offset, none⟩)) (by rw [← hf]; rfl) (by rw [← hf]; rfl) kk fun _ => ⟨?_, by simp [den]⟩
          simp only [execOp, ho, Instr.fieldAt, Sem.run_bind, run_underlying' hu, Result.andThen_ok, hfd, hpx, Instr.sureAddr, Sem.run_pure, fieldPlace, run_sizeOf' hi]
          rw [if_neg hc.2]
          simp only [Sem.run_pure, Result.andThen_ok, Addr.add_none]
        · cases hr
      · cases hr
    · cases hr
  ·
    rename_i t p f c
    simp only [foot, Option.some.injEq] at hf
    split at hr
    · rename_i fs hu
      split at hr
      · rename_i fd hfd
        obtain ⟨xs, hxs, hpx⟩ := denC_agg.1 (den1 (by simpa [Op.operands] using hv))
        have hrun : ∀ x : Value, (part fd.type xs.toArray fd.offset).run P w = .ok x w → (execOp ρ o).run P w = .ok (.value x) w := by
          intro x hx
          simp only [execOp, ho, Instr.field, Sem.run_bind, run_underlying' hu, Result.andThen_ok, hfd, hpx, asAgg, Sem.run_pure, hx]
        split at hr
        · rename_i d hd
          split at hr
          · rename_i ha
            cases hr
            obtain ⟨x, hx, hdx⟩ := partA_run (P := P) (w := w) (t := fd.type) (off := fd.offset) (v := .agg ((c.drop fd.offset).take (P.cellsOf fd.type))) hxs (by simp [partA, hd, ha])
            exact good_fin (by rw [← hf]; rfl) (by rw [← hf]; rfl) kk fun _ => ⟨hrun x hx, hdx⟩
          · rename_i ha
            split at hr
            · rename_i v hv'
              cases hr
              obtain ⟨k1, _⟩ := kk
              obtain ⟨x, hx, hdx⟩ := partA_run (P := P) (w := w) (t := fd.type) (off := fd.offset) (v := v) hxs (by simp only [partA, hd]; rw [if_neg ha]; exact k1)
              exact Good.pure (by rw [← hf]; rfl) (by rw [← hf]; rfl) (hrun x hx) hdx
            · simp only [Option.map_eq_some_iff] at hr
              obtain ⟨v, k1, rfl⟩ := hr
              obtain ⟨x, hx, hdx⟩ := partA_run (P := P) (w := w) (t := fd.type) (off := fd.offset) (v := v) hxs (by simp only [partA, hd]; rw [if_neg ha]; exact k1)
              exact Good.pure (by rw [← hf]; rfl) (by rw [← hf]; rfl) (hrun x hx) hdx
        · cases hr
      · cases hr
    · cases hr
  ·
    rename_i t p q x k i
    simp only [foot, Option.some.injEq] at hf
    obtain ⟨h1, h2⟩ := den2 (by simpa [Op.operands] using hv)
    have hq : ρ q = .int k i := by simpa [den] using h2.symm
    split at hr
    · rename_i n e nm off hu
      split at hr
      · rename_i hi
        obtain ⟨ie, hi⟩ := Option.isSome_iff_exists.1 hi
        cases hr
        obtain ⟨b, c, hb, hpx⟩ := ptr_den h1
        refine good_fin (x := .pointer (some ⟨b, off + i.toNat * P.cellsOf e, none⟩)) (by rw [← hf]; rfl) (by rw [← hf]; rfl) kk fun hob => ⟨?_, by simp [den, hb]⟩
        obtain ⟨o1, o2, _⟩ := hob
        simp only [execOp, ho, Instr.indexAt, Sem.run_bind, hq, asIntOf, Sem.run_pure, Result.andThen_ok, run_underlying' hu, hpx, Instr.sureAddr, run_sizeOf' hi]
        rw [if_pos ⟨o1, o2⟩]
        simp only [Sem.run_bind, run_sizeOf' hi, Result.andThen_ok, Sem.run_pure, Addr.add_none]
      · cases hr
    · rename_i n e nm off hu
      split at hr
      · rename_i hi
        obtain ⟨ie, hi⟩ := Option.isSome_iff_exists.1 hi
        cases hr
        have hpx : ρ p = .pointer (some ⟨nm, off, none⟩) := by simpa [den] using h1.symm
        refine good_fin (x := .pointer (some ⟨nm, off + i.toNat * P.cellsOf e, none⟩)) (by rw [← hf]; rfl) (by rw [← hf]; rfl) kk fun hob => ⟨?_, by simp [den]⟩
        obtain ⟨o1, o2, _⟩ := hob
        simp only [execOp, ho, Instr.indexAt, Sem.run_bind, hq, asIntOf, Sem.run_pure, Result.andThen_ok, run_underlying' hu, hpx, Instr.sureAddr, run_sizeOf' hi]
        rw [if_pos ⟨o1, o2⟩]
        simp only [Sem.run_bind, run_sizeOf' hi, Result.andThen_ok, Sem.run_pure, Addr.add_none]
      · cases hr
    · rename_i e nm off len cap hu
      split at hr
      · rename_i hi
        obtain ⟨ie, hi⟩ := Option.isSome_iff_exists.1 hi
        cases hr
        obtain ⟨b, c, hb, hpx⟩ := slice_den h1
        refine good_fin (x := .pointer (some ⟨b, off + i.toNat * P.cellsOf e, none⟩)) (by rw [← hf]; rfl) (by rw [← hf]; rfl) kk fun hob => ⟨?_, by simp [den, hb]⟩
        obtain ⟨o1, o2, _⟩ := hob
        simp only [execOp, ho, Instr.indexAt, Sem.run_bind, hq, asIntOf, Sem.run_pure, Result.andThen_ok, run_underlying' hu, hpx, Instr.sureAddr, run_sizeOf' hi]
        rw [if_pos ⟨o1, o2⟩]
        simp only [Sem.run_bind, run_sizeOf' hi, Result.andThen_ok, Sem.run_pure, Addr.add_none]
      · cases hr
    · rename_i e nm len hu
      split at hr
      · rename_i hi
        obtain ⟨ie, hi⟩ := Option.isSome_iff_exists.1 hi
        cases hr
        obtain ⟨b, c, hb, hpx⟩ := vec_den h1
        obtain ⟨hz, h0, _⟩ := vec_cap h1 hb
        refine good_fin (x := .pointer (some ⟨b, i.toNat * P.cellsOf e, none⟩)) (by rw [← hf]; rfl) (by rw [← hf]; rfl) kk fun hob => ⟨?_, by split <;> simp [den, hb, hz, h0]⟩
        obtain ⟨o1, o2, _⟩ := hob
        simp only [execOp, ho, Instr.indexAt, Sem.run_bind, hq, asIntOf, Sem.run_pure, Result.andThen_ok, run_underlying' hu, hpx, Instr.sureAddr, run_sizeOf' hi]
        rw [if_pos ⟨o1, o2⟩]
        simp only [Sem.run_bind, run_sizeOf' hi, Result.andThen_ok, Sem.run_pure, Addr.add_none, Nat.zero_add]
      · cases hr
    · rename_i e nm len hu
      split at hr
      · rename_i hi
        obtain ⟨ie, hi⟩ := Option.isSome_iff_exists.1 hi
        cases hr
        obtain ⟨b, c, hb, hpx⟩ := dsl_den h1
        refine good_fin (x := .pointer (some ⟨b, c.o + i.toNat * P.cellsOf e, none⟩)) (by rw [← hf]; rfl) (by rw [← hf]; rfl) kk fun hob => ?_
        obtain ⟨o1, o2, _⟩ := hob
        rcases hpx with ⟨_, h0, _⟩ | ⟨hz, _, hpx⟩
        · subst h0; exact absurd o2 (by have : ¬ i < ((0 : Nat) : Int) := by omega
                                        exact this)
        · refine ⟨?_, by split <;> simp [den, hb, hz]⟩
          simp only [execOp, ho, Instr.indexAt, Sem.run_bind, hq, asIntOf, Sem.run_pure, Result.andThen_ok, run_underlying' hu, hpx, Instr.sureAddr, run_sizeOf' hi]
          rw [if_pos ⟨o1, o2⟩]
          simp only [Sem.run_bind, run_sizeOf' hi, Result.andThen_ok, Sem.run_pure, Addr.add_none]
      · cases hr
    · rename_i e nm w' off len hu
      split at hr
      · rename_i hi
        obtain ⟨ie, hi⟩ := Option.isSome_iff_exists.1 hi
        cases hr
        obtain ⟨b, c, hb, hz, hle0, hpx⟩ := vsl_den h1
        refine good_fin (x := .pointer (some ⟨b, c.o + off * w' + i.toNat * P.cellsOf e, none⟩)) (by rw [← hf]; rfl) (by rw [← hf]; rfl) kk fun hob => ?_
        obtain ⟨o1, o2, o3, _⟩ := hob
        have o3 : w' = P.cellsOf e := o3
        have o1 : 0 ≤ i := o1
        have o2 : i < len := o2
        rw [if_neg (by omega)] at hpx
        refine ⟨?_, by simp only [den, hb, hz, Option.bind_some, Bool.false_eq_true, if_false, o3, Nat.add_mul, Nat.add_zero, Nat.add_assoc]⟩
        simp only [execOp, ho, Instr.indexAt, Sem.run_bind, hq, asIntOf, Sem.run_pure, Result.andThen_ok, run_underlying' hu, hpx, Instr.sureAddr, run_sizeOf' hi]
        rw [if_pos ⟨o1, o2⟩]
        simp only [Sem.run_bind, run_sizeOf' hi, Result.andThen_ok, Sem.run_pure, Addr.add_none]
      · cases hr
    · cases hr
  ·
    rename_i t p q x k i
    simp only [foot, Option.some.injEq] at hf
    obtain ⟨h1, h2⟩ := den2 (by simpa [Op.operands] using hv)
    have hq : ρ q = .int k i := by simpa [den] using h2.symm
    split at hr
    · rename_i s hu
      have hpx : ρ p = .string ⟨s.toArray⟩ := by simpa [den] using h1.symm
      have key : ∀ c : UInt8, 0 ≤ i → s[i.toNat]? = some c → (execOp ρ o).run P w = .ok (.value (.int .u8 c.toNat)) w := by
        intro c h0 hc
        have hget : (ByteArray.mk s.toArray)[i.toNat]? = some c := by
          obtain ⟨hlt, he⟩ := List.getElem?_eq_some_iff.1 hc
          have hlt' : i.toNat < (ByteArray.mk s.toArray).size := hlt
          rw [getElem?_pos (ByteArray.mk s.toArray) i.toNat hlt', ← he]
          rfl
        simp only [execOp, ho, Instr.index, Sem.run_bind, hq, asIntOf, Sem.run_pure, Result.andThen_ok, run_underlying' hu, hpx]
        rw [if_pos h0, hget]
        rfl
      split at hr
      · rename_i b hv'
        cases hr
        obtain ⟨o1, o2, _⟩ := kk
        obtain ⟨c, hc, hcb⟩ := Option.map_eq_some_iff.1 o2
        refine Good.pure (by rw [← hf]; rfl) (by rw [← hf]; rfl) (x := .int .u8 b) ?_ rfl
        rw [← hcb]; exact key c o1 hc
      · cases hr
      · obtain ⟨c, hc, rfl⟩ := Option.map_eq_some_iff.1 hr
        obtain ⟨o1, _⟩ := kk
        exact Good.pure (by rw [← hf]; rfl) (by rw [← hf]; rfl) (x := .int .u8 c.toNat) (key c o1 hc) rfl
    · rename_i n e c hu
      obtain ⟨xs, hxs, hpx⟩ := denC_agg.1 h1
      split at hr
      · rename_i d hd
        obtain ⟨ie, hie⟩ := underlying_info hd
        have key : ∀ x, 0 ≤ i → i < n → (part e xs.toArray (i.toNat * P.cellsOf e)).run P w = .ok x w → (execOp ρ o).run P w = .ok (.value x) w := by
          intro x o1 o2 hx
          simp only [execOp, ho, Instr.index, Sem.run_bind, hq, asIntOf, Sem.run_pure, Result.andThen_ok, run_underlying' hu, hpx]
          rw [if_pos ⟨o1, o2⟩]
          simp only [Sem.run_bind, run_sizeOf' hie, Result.andThen_ok, hx]
        split at hr
        · rename_i ha
          cases hr
          obtain ⟨x, hx, hdx⟩ := partA_run (P := P) (w := w) (t := e) (off := i.toNat * P.cellsOf e) (v := .agg ((c.drop (i.toNat * P.cellsOf e)).take (P.cellsOf e))) hxs (by simp [partA, hd, ha])
          exact good_fin (by rw [← hf]; rfl) (by rw [← hf]; rfl) kk fun hob => ⟨key x hob.1 hob.2.1 hx, hdx⟩
        · rename_i ha
          split at hr
          · rename_i v hv'
            cases hr
            obtain ⟨k1, k2, k3, _⟩ := kk
            obtain ⟨x, hx, hdx⟩ := partA_run (P := P) (w := w) (t := e) (off := i.toNat * P.cellsOf e) (v := v) hxs (by simp only [partA, hd]; rw [if_neg ha]; exact k3)
            exact Good.pure (by rw [← hf]; rfl) (by rw [← hf]; rfl) (key x k1 k2 hx) hdx
          · obtain ⟨v, k3, rfl⟩ := Option.map_eq_some_iff.1 hr
            obtain ⟨k1, k2, _⟩ := kk
            obtain ⟨x, hx, hdx⟩ := partA_run (P := P) (w := w) (t := e) (off := i.toNat * P.cellsOf e) (v := v) hxs (by simp only [partA, hd]; rw [if_neg ha]; exact k3)
            exact Good.pure (by rw [← hf]; rfl) (by rw [← hf]; rfl) (key x k1 k2 hx) hdx
      · cases hr
    · cases hr
  ·
    rename_i p i vs
    simp only [foot, Option.some.injEq] at hf
    have h1 := den1 (by simpa [Op.operands] using hv)
    obtain ⟨v, hv', rfl⟩ := Option.map_eq_some_iff.1 hr
    simp only [den, Option.map_eq_some_iff] at h1
    obtain ⟨xs, hxs, hpx⟩ := h1
    obtain ⟨x, hx, hdx⟩ := denL_get hxs hv'
    refine good_fin (by rw [← hf]; rfl) (by rw [← hf]; rfl) kk fun _ => ⟨?_, hdx⟩
    simp only [execOp, ho, Instr.extract, Sem.run_bind, ← hpx, List.getElem?_toArray, hx, Sem.run_pure, Result.andThen_ok]
  ·
    rename_i t p s
    split at hr
    · rename_i k hu hnm
      cases hr; simp only [foot, Option.some.injEq] at hf
      rw [hnm] at hf; subst hf
      have hpx : ρ p = .string ⟨s.toArray⟩ := by
        have := den1 (by simpa [Op.operands] using hv); simpa [den] using this.symm
      refine good_new kk fun _ => ⟨.pointer (some ⟨w.heap.size, 0, none⟩), { w with heap := w.heap.push (.stringIter ⟨s.toArray⟩ 0) }, E.set k (w.heap.size, 0), .inl ?_, by simp [den, Env.set_same], .push rfl rfl rfl rfl (hp.fresh k (by simp)) (push_new rfl) (fun e => absurd rfl e)⟩
      simp only [execOp, ho, Instr.range, Sem.run_bind, run_underlying' hu, Result.andThen_ok, hpx, Sem.run_pure, run_newObj]
    · cases hr
  ·
    rename_i p nm
    simp only [foot, Option.some.injEq] at hf
    exact good_next (h := h) ho (den1 (by simpa [Op.operands] using hv)) hf.symm hp (by simpa only [act] using hr) kk
  ·
    rename_i t
    simp only [foot, Option.some.injEq] at hf
    obtain rfl : cs = [] := by
      have := hp.len; rw [← hf] at this; simpa using this
    exact good_makeMap (h := h) ho hf.symm hp hr kk
  ·
    rename_i t pm pk nm cs'
    simp only [foot, Option.some.injEq] at hf
    obtain ⟨h1, h2⟩ := den2 (by simpa [Op.operands] using hv)
    exact good_lookupS (h := h) ho h1 h2 hf.symm hp hr kk
  ·
    rename_i t pm pk pv nm cs'
    simp only [foot, Option.some.injEq] at hf
    obtain ⟨h1, h2⟩ := denL_split (by simpa [Op.operands] using hv)
    obtain ⟨h2, h3⟩ := den2 h2
    exact good_updateS (h := h) ho h1 h2 (by simpa [den] using h3.symm) hf.symm hp hr kk
  ·
    rename_i c
    split at hr
    · rename_i hc
      have hv' := args1 hc hv
      split at hr
      · rename_i t x ht
        have hF : F = .no := by simp only [foot, hc, Option.some.injEq] at hf; exact hf.symm
        obtain ⟨v, hl, rfl⟩ := Option.map_eq_some_iff.1 hr
        obtain ⟨X, hX⟩ : ∃ X, c.args.map ρ = #[X] := by
          have hl1 := denL_length hv'
          generalize c.args.map ρ = A at hl1
          obtain ⟨l⟩ := A
          match l, hl1 with
          | [X], _ => exact ⟨X, rfl⟩
        rw [hX] at hv'
        obtain ⟨z, hz, hdz⟩ := lenA_run (P := P) (w := w) hl (den1 hv') c.argTypes ht o.type
        refine good_fin (by rw [hF]; rfl) (by rw [hF]; rfl) kk fun _ => ⟨execOp_builtin1 ho hc fun cb => ?_, hdz⟩
        simp only [hX, builtin, Sem.run_bind, hz, Result.andThen_ok, Sem.run_pure]
      · cases hr
    · rename_i hc
      have hv' := args1 hc hv
      split at hr
      · rename_i x y
        have hF : F = .no := by simp only [foot, hc, Option.some.injEq] at hf; exact hf.symm
        obtain ⟨v, hl, rfl⟩ := Option.map_eq_some_iff.1 hr
        unfold minA at hl
        split at hl
        · rename_i k1 a k2 b
          cases hl
          have hX : c.args.map ρ = #[.int k1 a, .int k2 b] := by
            have : denL E [AV.int k1 a, AV.int k2 b] = some [.int k1 a, .int k2 b] := by simp [denL, den]
            rw [this] at hv'
            apply Array.ext'; simpa using (Option.some.inj hv').symm
          refine good_fin (by rw [hF]; rfl) (by rw [hF]; rfl) kk fun _ => ⟨execOp_builtin1 ho hc fun cb => ?_, rfl⟩
          simp only [hX, builtin, Builtin.min_]
          simp [Builtin.min2]
        · cases hl
      · cases hr
    · rename_i hc
      have hv' := args1 hc hv
      split at hr
      · rename_i x y
        have hF : F = .no := by simp only [foot, hc, Option.some.injEq] at hf; exact hf.symm
        obtain ⟨v, hl, rfl⟩ := Option.map_eq_some_iff.1 hr
        unfold maxA at hl
        split at hl
        · rename_i k1 a k2 b
          cases hl
          have hX : c.args.map ρ = #[.int k1 a, .int k2 b] := by
            have : denL E [AV.int k1 a, AV.int k2 b] = some [.int k1 a, .int k2 b] := by simp [denL, den]
            rw [this] at hv'
            apply Array.ext'; simpa using (Option.some.inj hv').symm
          refine good_fin (by rw [hF]; rfl) (by rw [hF]; rfl) kk fun _ => ⟨execOp_builtin1 ho hc fun cb => ?_, rfl⟩
          simp only [hX, builtin, Builtin.max_]
          simp [Builtin.max2]
        · cases hl
      · cases hr
    · rename_i hc
      have hv' := args1 hc hv
      split at hr
      · rename_i s x
        simp only [foot, hc, Option.some.injEq] at hf
        have hl : c.args.size = 2 := by have := denL_length hv'; simpa using this
        obtain ⟨p, q, ha⟩ : ∃ p q, c.args.toList = [p, q] := by
          cases hh : c.args with
          | mk l =>
            rw [hh] at hl
            match l, hl with
            | [p, q], _ => exact ⟨p, q, rfl⟩
        have hv2 : denL E [s, x] = some [ρ p, ρ q] := by rw [hv']; simp [ha]
        obtain ⟨h1, h2⟩ := den2 hv2
        obtain ⟨r0, hr0, rfl⟩ := Option.map_eq_some_iff.1 hr
        exact good_seal (good_append ho hc ha h1 h2 hf.symm hp hr0 (by rw [← sealR_obl (h := h)]; exact kk))
      · cases hr
    · rename_i hc
      have hv' := args1 hc hv
      split at hr
      · rename_i x
        simp only [foot, hc, Option.some.injEq] at hf
        subst hf
        obtain ⟨X, hX⟩ : ∃ X, c.args.map ρ = #[X] := by
          have hl1 := denL_length hv'
          generalize c.args.map ρ = A at hl1
          obtain ⟨l⟩ := A
          match l, hl1 with
          | [X], _ => exact ⟨X, rfl⟩
        rw [hX] at hv'
        exact good_clear ho hc hX (den1 hv') hp hr kk
      · cases hr
    · rename_i hc
      have hv' := args1 hc hv
      unfold sliceDataA at hr
      split at hr
      · cases hr
        have hX : c.args.map ρ = #[.slice none 0 0] := by
          have : denL E [AV.qzz] = some [.slice none 0 0] := by simp [denL, den]
          rw [this] at hv'
          apply Array.ext'; simpa using (Option.some.inj hv').symm
        have hF : F = ⟨[], [], []⟩ := by simp only [foot, hc, Option.some.injEq] at hf; exact hf.symm
        refine Good.pure (by rw [hF]; rfl) (by rw [hF]) (x := .pointer none) (execOp_builtinW ho hc fun cb => ?_) rfl
        simp only [hX, builtin, Sem.run_bind, Lib.run_unsafeSliceData_nil w, Result.andThen_ok, Sem.run_pure]
      · rename_i nm len cs' t sz
        cases hr
        have hF : F = ⟨[nm], [], []⟩ := by simp only [foot, hc, Option.some.injEq] at hf; exact hf.symm
        subst hF
        obtain ⟨k1, _⟩ := kk
        have k1 : 0 < cs'.length := k1
        obtain ⟨X, hX⟩ : ∃ X, c.args.map ρ = #[X] := by
          have hl1 := denL_length hv'
          generalize c.args.map ρ = A at hl1
          obtain ⟨l⟩ := A
          match l, hl1 with
          | [X], _ => exact ⟨X, rfl⟩
        rw [hX] at hv'
        obtain ⟨b, cap, hb, rfl⟩ := vec_den (den1 hv')
        obtain ⟨b', c'', hb', xs, ys, hxs, hw, hl, hoz⟩ := hp.objs 0 nm _ rfl rfl
        rw [hb] at hb'; cases hb'
        have hcap : cap.n ≠ 0 := by
          intro h0
          rw [h0] at hl
          have := qxu hxs
          simp at hl; rw [hl.1] at this; simp at this; omega
        refine Good.pure rfl rfl (x := .pointer (some ⟨b, 0, none⟩)) (execOp_builtinW ho hc fun cb => ?_) (by simp [den, hb])
        simp only [hX, builtin, Sem.run_bind, Lib.run_unsafeSliceData_row w _ _ _ _ _ hcap, Result.andThen_ok, Sem.run_pure]
      · rename_i nm len cs' t sz
        cases hr
        have hF : F = ⟨[nm], [], []⟩ := by simp only [foot, hc, Option.some.injEq] at hf; exact hf.symm
        subst hF
        obtain ⟨k1, _⟩ := kk
        have k1 : 0 < cs'.length := k1
        obtain ⟨X, hX⟩ : ∃ X, c.args.map ρ = #[X] := by
          have hl1 := denL_length hv'
          generalize c.args.map ρ = A at hl1
          obtain ⟨l⟩ := A
          match l, hl1 with
          | [X], _ => exact ⟨X, rfl⟩
        rw [hX] at hv'
        obtain ⟨b, cap, hb, rfl⟩ := vec_den (den1 hv')
        obtain ⟨b', c'', hb', xs, ys, hxs, hw, hl, hoz⟩ := hp.objs 0 nm _ rfl rfl
        rw [hb] at hb'; cases hb'
        have hcap : cap.n ≠ 0 := by
          intro h0
          rw [h0] at hl
          have := qxu hxs
          simp at hl; rw [hl.1] at this; simp at this; omega
        refine Good.pure rfl rfl (x := .pointer (some ⟨b, 0, none⟩)) (execOp_builtinW ho hc fun cb => ?_) (by simp [den, hb])
        simp only [hX, builtin, Sem.run_bind, Lib.run_unsafeSliceData_row w _ _ _ _ _ hcap, Result.andThen_ok, Sem.run_pure]
      · cases hr
    · rename_i hc
      have hv' := args1 hc hv
      split at hr
      · rename_i t x ht
        have hF : F = .no := by simp only [foot, hc, Option.some.injEq] at hf; exact hf.symm
        obtain ⟨v, hl, rfl⟩ := Option.map_eq_some_iff.1 hr
        obtain ⟨X, hX⟩ : ∃ X, c.args.map ρ = #[X] := by
          have hl1 := denL_length hv'
          generalize c.args.map ρ = A at hl1
          obtain ⟨l⟩ := A
          match l, hl1 with
          | [X], _ => exact ⟨X, rfl⟩
        rw [hX] at hv'
        obtain ⟨z, hz, hdz⟩ := capA_run (P := P) (w := w) hl (den1 hv') c.argTypes ht o.type
        refine good_fin (by rw [hF]; rfl) (by rw [hF]; rfl) kk fun _ => ⟨execOp_builtin1 ho hc fun cb => ?_, hdz⟩
        simp only [hX, builtin, Sem.run_bind, hz, Result.andThen_ok, Sem.run_pure]
      · cases hr
    · rename_i hc
      have hv' := args1 hc hv
      split at hr
      · rename_i e s he
        split at hr
        · rename_i hcond
          simp only [Bool.and_eq_true] at hcond
          obtain ⟨hie, hsl⟩ := hcond
          obtain ⟨ie, hi⟩ := Option.isSome_iff_exists.1 hie
          simp only [Option.bind_eq_some_iff] at he
          obtain ⟨t0, h0, hu0⟩ := he
          cases hr
          have hF : F = ⟨s.name ++ [], s.name, []⟩ := by simp only [foot, hc, Option.some.injEq, AV.name] at hf; exact hf.symm
          subst hF
          obtain ⟨X, Y, hX⟩ : ∃ X Y, c.args.map ρ = #[X, Y] := by
            have hl1 := denL_length hv'
            generalize c.args.map ρ = A at hl1
            obtain ⟨l⟩ := A
            match l, hl1 with
            | [X, Y], _ => exact ⟨X, Y, rfl⟩
          rw [hX] at hv'
          obtain ⟨d1, d2⟩ := den2 hv'
          have hY : Y = .slice none 0 0 := by simpa [den] using d2.symm
          subst hY
          obtain ⟨base, dl, dc, rfl⟩ : ∃ base dl dc, X = .slice base dl dc := by
            cases s <;> simp [AV.isSlice] at hsl
            · obtain ⟨b, c', _, rfl⟩ := slice_den d1; exact ⟨_, _, _, rfl⟩
            · obtain ⟨b, c', _, rfl⟩ := vec_den d1; exact ⟨_, _, _, rfl⟩
            · exact ⟨none, 0, 0, by simpa [den] using d1.symm⟩
          refine ⟨.int .i64 0, w, E, .inl (execOp_builtin1 ho hc fun cb => ?_), rfl, {
            le := .refl _, only := fun _ _ => rfl
            wrote := fun _ i n o h1 h2 => hp.objs i n o h1 h2
            made := fun i n o h1 => by simp at h1
            keep := fun k hk hne => rfl
            newApart := fun i j n m o1 o2 b c b' c' h1 => by simp at h1
            bare := fun n b c k h1 => by simp at h1
            grow := Nat.le_refl _
            os := rfl, tape := rfl, output := rfl }⟩
          have hrun : (Builtin.copy_ c.argTypes o.type #[.slice base dl dc, .slice none 0 0]).run P w = .ok (.int .i64 0) w := by
            simp only [Builtin.copy_, h0, List.getElem?_toArray, List.getElem?_cons_zero, List.getElem?_cons_succ, Sem.run_bind, run_underlying' hu0, Result.andThen_ok, Builtin.lenOf, Sem.run_pure, run_sizeOf' hi, Builtin.firstCells]
            have : Nat.min 0 dl = 0 := Nat.zero_min dl
            cases base <;> simp [storeCells, goInt, this]
          simp only [hX, builtin, Sem.run_bind, hrun, Result.andThen_ok, Sem.run_pure]
        · cases hr
      · rename_i e s x he _
        have hF : F = ⟨s.name ++ x.name, s.name, []⟩ := by simp only [foot, hc, Option.some.injEq] at hf; exact hf.symm
        subst hF
        obtain ⟨X, Y, hX⟩ : ∃ X Y, c.args.map ρ = #[X, Y] := by
          have hl1 := denL_length hv'
          generalize c.args.map ρ = A at hl1
          obtain ⟨l⟩ := A
          match l, hl1 with
          | [X, Y], _ => exact ⟨X, Y, rfl⟩
        rw [hX] at hv'
        obtain ⟨d1, d2⟩ := den2 hv'
        exact good_copy ho hc hX d1 d2 (by assumption) hp hr kk
      · cases hr
    · rename_i hc
      have hv' := args1 hc hv
      unfold unsafeStrA at hr
      split at hr
      · rename_i n pt it hat
        cases hr
        obtain ⟨k1, _⟩ := kk
        have k1 : n = 0 := k1
        subst k1
        have hX : c.args.map ρ = #[.pointer none, .int .i64 0] := by
          have : denL E [AV.nilptr, AV.int .i64 0] = some [.pointer none, .int .i64 0] := by simp [denL, den]
          rw [this] at hv'
          apply Array.ext'; simpa using (Option.some.inj hv').symm
        have hF : F = ⟨[], [], []⟩ := by simp only [foot, hc, Option.some.injEq] at hf; exact hf.symm
        have hA : c.argTypes = #[pt, it] := by apply Array.ext'; simpa using hat
        refine Good.pure (by rw [hF]; rfl) (by rw [hF]) (x := .string .empty) (execOp_builtinW ho hc fun cb => ?_) rfl
        simp only [hX, hA, builtin, Sem.run_bind, Lib.run_unsafeString_none w, Result.andThen_ok, Sem.run_pure]
      · rename_i nm n cs' t sz pt it hat
        split at hr
        · rename_i e0 hpt
          split at hr
          · rename_i hcond
            obtain ⟨rfl, hcond⟩ := hcond
            split at hr
            · rename_i s hval
              cases hr
              obtain ⟨k1, k2, k3, k4, _⟩ := kk
              have k1 : cs' = u8s s := k1
              have k2 : n = s.length := k2
              have k3 : s ≠ [] := k3
              have k4 : s.length < 9223372036854775808 := k4
              subst k1; subst k2
              have hF : F = ⟨[nm], [nm], []⟩ := by simp only [foot, hc, Option.some.injEq] at hf; exact hf.symm
              subst hF
              obtain ⟨X, Y, hX⟩ : ∃ X Y, c.args.map ρ = #[X, Y] := by
                have hl1 := denL_length hv'
                generalize c.args.map ρ = A at hl1
                obtain ⟨l⟩ := A
                match l, hl1 with
                | [X, Y], _ => exact ⟨X, Y, rfl⟩
              rw [hX] at hv'
              obtain ⟨d1, d2⟩ := den2 hv'
              obtain ⟨b, cap, hb, rfl⟩ := ptr_den d1
              have hY : Y = .int .i64 s.length := by simpa [den] using d2.symm
              subst hY
              obtain ⟨b', c'', hb', xs, ys, hxs, ⟨mk, hw, hmk⟩, hl, hoz⟩ := hp.objs 0 nm _ rfl rfl
              rw [hb] at hb'; cases hb'
              have hxe : xs = s.map fun b => Value.int .u8 b.toNat := by
                have := hxs.1; rw [denL_u8s] at this; exact (Option.some.inj this).symm
              have hA : c.argTypes = #[pt, it] := by apply Array.ext'; simpa using hat
              have run := Lib.run_unsafeString_row (P := P) w pt it o.type _ hpt hcond b (xs ++ ys).toArray.size (by simp [World.shape?, hw]) s k3 (by simp [hxe]) (by omega) (fun j x hx => by
                rw [Addr.add_none, cell_of_block hw, Nat.zero_add]
                have hlt := (List.getElem?_eq_some_iff.1 hx).1
                simp [hxe, List.getElem?_append_left, hlt] at hx ⊢
                rw [hx])
              have hu : Upd b w (w.freeze ⟨b, 0, none⟩ s.length) := by
                unfold World.freeze
                split
                · exact .refl b w
                · exact ⟨fun k hk => by simp only [Array.getElem?_modify]; rw [if_neg (by omega)], by simp, rfl, rfl, rfl⟩
              refine ⟨.string ⟨s.toArray⟩, _, E, .inl (execOp_builtinW ho hc fun cb => ?_), rfl, .write hb ⟨xs, ys, hxs, freeze_block hw, hl, hoz⟩ hu⟩
              simp only [hX, hA, builtin, Sem.run_bind, run, Result.andThen_ok, Sem.run_pure]
            · cases hr
          · cases hr
        · cases hr
      · rename_i nm n cs' t sz pt it hat
        split at hr
        · rename_i e0 hpt
          split at hr
          · rename_i hcond
            obtain ⟨rfl, hcond⟩ := hcond
            split at hr
            · rename_i s hval
              cases hr
              obtain ⟨k1, k2, k3, k4, _⟩ := kk
              have k1 : cs' = u8s s := k1
              have k2 : n = s.length := k2
              have k3 : s ≠ [] := k3
              have k4 : s.length < 9223372036854775808 := k4
              subst k1; subst k2
              have hF : F = ⟨[nm], [nm], []⟩ := by simp only [foot, hc, Option.some.injEq] at hf; exact hf.symm
              subst hF
              obtain ⟨X, Y, hX⟩ : ∃ X Y, c.args.map ρ = #[X, Y] := by
                have hl1 := denL_length hv'
                generalize c.args.map ρ = A at hl1
                obtain ⟨l⟩ := A
                match l, hl1 with
                | [X, Y], _ => exact ⟨X, Y, rfl⟩
              rw [hX] at hv'
              obtain ⟨d1, d2⟩ := den2 hv'
              obtain ⟨b, cap, hb, rfl⟩ := ptr_den d1
              have hY : Y = .int .i64 s.length := by simpa [den] using d2.symm
              subst hY
              obtain ⟨b', c'', hb', xs, ys, hxs, ⟨mk, hw⟩, hl, hoz⟩ := hp.objs 0 nm _ rfl rfl
              rw [hb] at hb'; cases hb'
              have hxe : xs = s.map fun b => Value.int .u8 b.toNat := by
                have := hxs.1; rw [denL_u8s] at this; exact (Option.some.inj this).symm
              have hA : c.argTypes = #[pt, it] := by apply Array.ext'; simpa using hat
              have run := Lib.run_unsafeString_row (P := P) w pt it o.type _ hpt hcond b (xs ++ ys).toArray.size (by simp [World.shape?, hw]) s k3 (by simp [hxe]) (by omega) (fun j x hx => by
                rw [Addr.add_none, cell_of_block hw, Nat.zero_add]
                have hlt := (List.getElem?_eq_some_iff.1 hx).1
                simp [hxe, List.getElem?_append_left, hlt] at hx ⊢
                rw [hx])
              have hu : Upd b w (w.freeze ⟨b, 0, none⟩ s.length) := by
                unfold World.freeze
                split
                · exact .refl b w
                · exact ⟨fun k hk => by simp only [Array.getElem?_modify]; rw [if_neg (by omega)], by simp, rfl, rfl, rfl⟩
              refine ⟨.string ⟨s.toArray⟩, _, E, .inl (execOp_builtinW ho hc fun cb => ?_), rfl, .write hb ⟨xs, ys, hxs, freeze_block hw, hl, hoz⟩ hu⟩
              simp only [hX, hA, builtin, Sem.run_bind, run, Result.andThen_ok, Sem.run_pure]
            · cases hr
          · cases hr
        · cases hr
      · cases hr
    · cases hr
  · cases hr
end Go.Proofs.YtphhepnldndbhaaGreatDoor.Sx
namespace Go.Proofs.YtphhepnldndbhaaGreatDoor.Sx
open Go
variable {P : Program} {E : Env} {w : World}
mutual
def AV.ren (r : List Nat) : AV → AV
  | .ptr nm off => match r[nm]? with | some m => .ptr m off | none => .bad
  | .slice nm off l c => match r[nm]? with | some m => .slice m off l c | none => .bad
  | .vec nm l => match r[nm]? with | some m => .vec m l | none => .bad
  | .dsl nm l => match r[nm]? with | some m => .dsl m l | none => .bad
  | .dptr nm l => match r[nm]? with | some m => .dptr m l | none => .bad
  | .rptr nm w i j => match r[nm]? with | some m => .rptr m w i j | none => .bad
  | .mapp nm => match r[nm]? with | some m => .mapp m | none => .bad
  | .vsl nm w i j => match r[nm]? with | some m => .vsl m w i j | none => .bad
  | .agg cs => .agg (renL r cs)
  | .tuple cs => .tuple (renL r cs)
  | .func f as cs => .func f (renL r as) (renL r cs)
  | .iface t v => .iface t (v.ren r)
  | .bool b => .bool b
  | .int k n => .int k n
  | .str s => .str s
  | .nilptr => .nilptr
  | .qzz => .qzz
  | .gptr g off => .gptr g off
  | .nilfunc => .nilfunc
  | .nilmap => .nilmap
  | .niliface => .niliface
  | .bad => .bad
def renL (r : List Nat) : List AV → List AV
  | [] => []
  | v :: vs => v.ren r :: renL r vs
end
def AObj.ren (r : List Nat) : AObj → AObj
  | .cells cs t => .cells (renL r cs) t
  | .vec cs t sz => .vec (renL r cs) t sz
  | .ro off cs => .ro off (renL r cs)
  | .flat m cs => .flat m (renL r cs)
  | .flatR m sh rows => .flatR m sh rows
  | .flatN sh rows => .flatN sh rows
  | .iter s p => .iter s p
  | .shut cs t sz => .shut (renL r cs) t sz
  | .mapS n ks => .mapS n ks
  | .loopR up n ix cs ps asg body => .loopR up n ix (renL r cs) ps asg body
  | .dead => .dead
theorem yfOf_ren {r : List Nat} {A B : Env} (h : ∀ i m p, r[i]? = some m → A m = some p → B i = some p) {as cs : List AV} {x : Value} (e : yfOf A (renL r as) (renL r cs) = some x) : yfOf B as cs = some x := by
  obtain ⟨nm, p, h1, h2, hp, rfl⟩ := yfOf_some e
  have hc : cs = [] := by cases cs with | nil => rfl | cons a l => simp [renL] at h2
  subst hc
  match as, h1 with
  | [v], h1 =>
    simp only [renL, List.cons.injEq, and_true] at h1
    cases v <;> simp only [AV.ren] at h1 <;> first | (cases h1; done) | (split at h1 <;> first | (cases h1; done) | skip)
    rename_i n off m hm
    cases h1
    simp [yfOf, h _ _ _ hm hp]
  | _ :: _ :: _, h1 => simp [renL] at h1
theorem yfOf_ren' {r : List Nat} {A B : Env} (h : ∀ i p, B i = some p → ∃ m, r[i]? = some m ∧ A m = some p) {as cs : List AV} {x : Value} (e : yfOf B as cs = some x) : yfOf A (renL r as) (renL r cs) = some x := by
  obtain ⟨nm, p, rfl, rfl, hp, rfl⟩ := yfOf_some e
  obtain ⟨m, hm, ha⟩ := h _ _ hp
  simp [renL, AV.ren, hm, yfOf, ha]
mutual
theorem ren_den {r : List Nat} {A B : Env} (h : ∀ i m p, r[i]? = some m → A m = some p → B i = some p) : ∀ (v : AV) (x : Value), den A (v.ren r) = some x → den B v = some x
  | .ptr nm off, x, e => by
    simp only [AV.ren] at e
    split at e
    · rename_i m hm; obtain ⟨b, c, hb, rfl⟩ := ptr_den e; simp [den, h _ _ _ hm hb]
    · simp [den] at e
  | .mapp nm, x, e => by
    simp only [AV.ren] at e
    split at e
    · rename_i m hm; obtain ⟨b, c, hb, rfl⟩ := mapp_den e; simp [den, h _ _ _ hm hb]
    · simp [den] at e
  | .slice nm off l c, x, e => by
    simp only [AV.ren] at e
    split at e
    · rename_i m hm; obtain ⟨b, c, hb, rfl⟩ := slice_den e; simp [den, h _ _ _ hm hb]
    · simp [den] at e
  | .vec nm l, x, e => by
    simp only [AV.ren] at e
    split at e
    · rename_i m hm
      have e' := e
      obtain ⟨b, c, hb, _⟩ := vec_den e
      simp only [den, h _ _ _ hm hb, hb] at e' ⊢; exact e'
    · simp [den] at e
  | .dsl nm l, x, e => by
    simp only [AV.ren] at e
    split at e
    · rename_i m hm
      have e' := e
      obtain ⟨b, c, hb, _⟩ := dsl_den e
      simp only [den, h _ _ _ hm hb, hb] at e' ⊢; exact e'
    · simp [den] at e
  | .dptr nm l, x, e => by
    simp only [AV.ren] at e
    split at e
    · rename_i m hm
      have e' := e
      obtain ⟨b, c, hb, _⟩ := dptr_den e
      simp only [den, h _ _ _ hm hb, hb] at e' ⊢; exact e'
    · simp [den] at e
  | .rptr nm w i j, x, e => by
    simp only [AV.ren] at e
    split at e
    · rename_i m hm
      have e' := e
      obtain ⟨b, c, hb, _⟩ := rptr_den e
      simp only [den, h _ _ _ hm hb, hb] at e' ⊢; exact e'
    · simp [den] at e
  | .vsl nm w i j, x, e => by
    simp only [AV.ren] at e
    split at e
    · rename_i m hm
      have e' := e
      obtain ⟨b, c, hb, _⟩ := vsl_den e
      simp only [den, h _ _ _ hm hb, hb] at e' ⊢; exact e'
    · simp [den] at e
  | .agg cs, x, e => by
    simp only [AV.ren] at e
    obtain ⟨xs, hx, rfl⟩ := denC_agg.1 e
    exact denC_agg.2 ⟨xs, ⟨renL_den h cs xs hx.1, hx.2⟩, rfl⟩
  | .tuple cs, x, e => by
    simp only [AV.ren, den, Option.map_eq_some_iff] at e ⊢
    obtain ⟨xs, hx, rfl⟩ := e; exact ⟨xs, renL_den h cs xs hx, rfl⟩
  | .func f as cs, x, e => by
    simp only [AV.ren, den] at e ⊢
    split at e
    · rename_i hf; rw [if_pos hf]; exact yfOf_ren h e
    · rename_i hf
      rw [if_neg hf]
      split at e
      · rename_i ys zs hy hz; rw [renL_den h as ys hy, renL_den h cs zs hz]; exact e
      · cases e
  | .iface t v, x, e => by
    simp only [AV.ren, den, Option.map_eq_some_iff] at e ⊢
    obtain ⟨y, hy, rfl⟩ := e; exact ⟨y, ren_den h v y hy, rfl⟩
  | .bool b, x, e => e
  | .int k n, x, e => e
  | .str s, x, e => e
  | .nilptr, x, e => e
  | .qzz, x, e => e
  | .gptr g off, x, e => e
  | .nilfunc, x, e => e
  | .nilmap, x, e => e
  | .niliface, x, e => e
  | .bad, x, e => e
theorem renL_den {r : List Nat} {A B : Env} (h : ∀ i m p, r[i]? = some m → A m = some p → B i = some p) : ∀ (vs : List AV) (xs : List Value), denL A (renL r vs) = some xs → denL B vs = some xs
  | [], xs, e => e
  | v :: vs, xs, e => by
    simp only [renL] at e
    obtain ⟨x, ys, hx, hy, rfl⟩ := qxz.1 e
    exact qxz.2 ⟨x, ys, ren_den h v x hx, renL_den h vs ys hy, rfl⟩
end
mutual
theorem den_ren {r : List Nat} {A B : Env} (h : ∀ i p, B i = some p → ∃ m, r[i]? = some m ∧ A m = some p) : ∀ (v : AV) (x : Value), den B v = some x → den A (v.ren r) = some x
  | .ptr nm off, x, e => by
    obtain ⟨b, c, hb, rfl⟩ := ptr_den e
    obtain ⟨m, hm, ha⟩ := h _ _ hb
    simp [AV.ren, hm, den, ha]
  | .mapp nm, x, e => by
    obtain ⟨b, c, hb, rfl⟩ := mapp_den e
    obtain ⟨m, hm, ha⟩ := h _ _ hb
    simp [AV.ren, hm, den, ha]
  | .slice nm off l c, x, e => by
    obtain ⟨b, c, hb, rfl⟩ := slice_den e
    obtain ⟨m, hm, ha⟩ := h _ _ hb
    simp [AV.ren, hm, den, ha]
  | .vec nm l, x, e => by
    have e' := e
    obtain ⟨b, c, hb, _⟩ := vec_den e
    obtain ⟨m, hm, ha⟩ := h _ _ hb
    simp only [AV.ren, hm, den, ha, hb] at e' ⊢; exact e'
  | .dsl nm l, x, e => by
    have e' := e
    obtain ⟨b, c, hb, _⟩ := dsl_den e
    obtain ⟨m, hm, ha⟩ := h _ _ hb
    simp only [AV.ren, hm, den, ha, hb] at e' ⊢; exact e'
  | .dptr nm l, x, e => by
    have e' := e
    obtain ⟨b, c, hb, _⟩ := dptr_den e
    obtain ⟨m, hm, ha⟩ := h _ _ hb
    simp only [AV.ren, hm, den, ha, hb] at e' ⊢; exact e'
  | .rptr nm w i j, x, e => by
    have e' := e
    obtain ⟨b, c, hb, _⟩ := rptr_den e
    obtain ⟨m, hm, ha⟩ := h _ _ hb
    simp only [AV.ren, hm, den, ha, hb] at e' ⊢; exact e'
  | .vsl nm w i j, x, e => by
    have e' := e
    obtain ⟨b, c, hb, _⟩ := vsl_den e
    obtain ⟨m, hm, ha⟩ := h _ _ hb
    simp only [AV.ren, hm, den, ha, hb] at e' ⊢; exact e'
  | .agg cs, x, e => by
    obtain ⟨xs, hx, rfl⟩ := denC_agg.1 e
    simp only [AV.ren]
    exact denC_agg.2 ⟨xs, ⟨denL_ren h cs xs hx.1, hx.2⟩, rfl⟩
  | .tuple cs, x, e => by
    simp only [AV.ren, den, Option.map_eq_some_iff] at e ⊢
    obtain ⟨xs, hx, rfl⟩ := e; exact ⟨xs, denL_ren h cs xs hx, rfl⟩
  | .func f as cs, x, e => by
    simp only [AV.ren, den] at e ⊢
    split at e
    · rename_i hf; rw [if_pos hf]; exact yfOf_ren' h e
    · rename_i hf
      rw [if_neg hf]
      split at e
      · rename_i ys zs hy hz; rw [denL_ren h as ys hy, denL_ren h cs zs hz]; exact e
      · cases e
  | .iface t v, x, e => by
    simp only [AV.ren, den, Option.map_eq_some_iff] at e ⊢
    obtain ⟨y, hy, rfl⟩ := e; exact ⟨y, den_ren h v y hy, rfl⟩
  | .bool b, x, e => e
  | .int k n, x, e => e
  | .str s, x, e => e
  | .nilptr, x, e => e
  | .qzz, x, e => e
  | .gptr g off, x, e => e
  | .nilfunc, x, e => e
  | .nilmap, x, e => e
  | .niliface, x, e => e
  | .bad, x, e => e
theorem denL_ren {r : List Nat} {A B : Env} (h : ∀ i p, B i = some p → ∃ m, r[i]? = some m ∧ A m = some p) : ∀ (vs : List AV) (xs : List Value), denL B vs = some xs → denL A (renL r vs) = some xs
  | [], xs, e => e
  | v :: vs, xs, e => by
    obtain ⟨x, ys, hx, hy, rfl⟩ := qxz.1 e
    simp only [renL]
    exact qxz.2 ⟨x, ys, den_ren h v x hx, denL_ren h vs ys hy, rfl⟩
end
theorem ObjR.unren {r : List Nat} {A B : Env} (h : ∀ i m p, r[i]? = some m → A m = some p → B i = some p) {b : Nat} {c : Cap} {o : AObj} (k : ObjR A w b c (o.ren r)) : ObjR B w b c o := by
  cases o with
  | cells cs t => obtain ⟨xs, hx, hw⟩ := k; exact ⟨xs, ⟨renL_den h _ _ hx.1, hx.2⟩, hw⟩
  | vec cs t sz => obtain ⟨xs, ys, hx, hw⟩ := k; exact ⟨xs, ys, ⟨renL_den h _ _ hx.1, hx.2⟩, hw⟩
  | ro off cs => obtain ⟨xs, hx, hw⟩ := k; exact ⟨xs, ⟨renL_den h _ _ hx.1, hx.2⟩, hw⟩
  | flat m cs =>
    obtain ⟨xs, hx, hz, hw⟩ := k
    exact ⟨xs, ⟨renL_den h _ _ hx.1, hx.2⟩, fun e => by have := hz e; cases cs with | nil => rfl | cons a l => simp [renL] at this, hw⟩
  | flatR m sh rows => exact k
  | flatN sh rows => exact k
  | iter s p => exact k
  | shut cs t sz => obtain ⟨xs, ys, hx, hw⟩ := k; exact ⟨xs, ys, ⟨renL_den h _ _ hx.1, hx.2⟩, hw⟩
  | mapS n ks => exact k
  | loopR up n ix cs ps asg body => obtain ⟨xs, r, hx, hw⟩ := k; exact ⟨xs, r, renL_den h _ _ hx, hw⟩
  | dead => trivial
theorem ObjR.ren {r : List Nat} {A B : Env} (h : ∀ i p, B i = some p → ∃ m, r[i]? = some m ∧ A m = some p) {b : Nat} {c : Cap} {o : AObj} (k : ObjR B w b c o) : ObjR A w b c (o.ren r) := by
  cases o with
  | cells cs t => obtain ⟨xs, hx, hw⟩ := k; exact ⟨xs, ⟨denL_ren h _ _ hx.1, hx.2⟩, hw⟩
  | vec cs t sz => obtain ⟨xs, ys, hx, hw⟩ := k; exact ⟨xs, ys, ⟨denL_ren h _ _ hx.1, hx.2⟩, hw⟩
  | ro off cs => obtain ⟨xs, hx, hw⟩ := k; exact ⟨xs, ⟨denL_ren h _ _ hx.1, hx.2⟩, hw⟩
  | flat m cs => obtain ⟨xs, hx, hz, hw⟩ := k; exact ⟨xs, ⟨denL_ren h _ _ hx.1, hx.2⟩, fun e => by rw [hz e]; rfl, hw⟩
  | flatR m sh rows => exact k
  | flatN sh rows => exact k
  | iter s p => exact k
  | shut cs t sz => obtain ⟨xs, ys, hx, hw⟩ := k; exact ⟨xs, ys, ⟨denL_ren h _ _ hx.1, hx.2⟩, hw⟩
  | mapS n ks => exact k
  | loopR up n ix cs ps asg body => obtain ⟨xs, r, hx, hw⟩ := k; exact ⟨xs, r, denL_ren h _ _ hx, hw⟩
  | dead => trivial
theorem AObj.ren_owned (r : List Nat) (o : AObj) : (o.ren r).owned = o.owned := by cases o <;> rfl
theorem touches_ren {b k : Nat} {c : Cap} {r : List Nat} {o : AObj} (h : touches b c (o.ren r) k) : touches b c o k := by cases o <;> exact h
theorem touches_ren' {b k : Nat} {c : Cap} {r : List Nat} {o : AObj} (h : touches b c o k) : touches b c (o.ren r) k := by cases o <;> exact h
theorem AObj.ren_mine (r : List Nat) (o : AObj) : (o.ren r).mine = o.mine := by cases o <;> rfl
theorem AObj.ren_live (r : List Nat) (o : AObj) : (o.ren r).live = o.live := by cases o <;> rfl
def Fits (a b : AObj) : Prop := ∀ (E : Env) (w : World) (k : Nat) (c : Cap), ObjR E w k c a → ObjR E w k c b
theorem Fits.refl (a : AObj) : Fits a a := fun _ _ _ _ h => h
theorem Fits.of_eq {a b : AObj} (h : a = b) : Fits a b := h ▸ Fits.refl a
theorem Fits.ro {a : AObj} {o0 off : Nat} {cs us : List AV} (hk : a.known = some (o0, cs)) (hl : a.live = true) (h0 : o0 ≤ off) (hu : (cs.drop (off - o0)).take us.length = us) : Fits a (.ro off us) := by
  intro E w k c h
  obtain ⟨xs, hx, hw⟩ := h.window hk
  refine ⟨(xs.drop (off - o0)).take us.length, ?_, window_slice hw h0, h.lt hl (by cases a <;> first | rfl | (simp [AObj.known] at hk))⟩
  have := denC_take (denC_drop hx (off - o0)) us.length
  rwa [hu] at this
structure PreR (E : Env) (w : World) (pre : List AObj) : Prop where
  objs : ∀ (n : Nat) (o : AObj), pre[n]? = some o → ∃ b c, E n = some (b, c) ∧ ObjR E w b c o
  fresh : ∀ n, pre.length ≤ n → E n = none
  apart : ∀ (n m : Nat) (o o' : AObj) (b : Nat) (c : Cap) (b' : Nat) (c' : Cap), pre[n]? = some o → pre[m]? = some o' → o.owned = true → o'.live = true → E n = some (b, c) → E m = some (b', c') → n ≠ m → ¬ touches b' c' o' b
  glob : GlobOK w (fun k => ∃ (n : Nat) (o : AObj) (c : Cap), pre[n]? = some o ∧ o.owned = true ∧ E n = some (k, c))
  nest : ∀ (m b : Nat) (c : Cap) (k : Nat), E m = some (b, c) → under c k → k < w.heap.size ∧ ∀ (n : Nat) (o : AObj) (c' : Cap), pre[n]? = some o → o.owned = true → E n ≠ some (k, c')
structure PostR (E E' : Env) (w w' : World) (pre post : List AObj) : Prop where
  le : Env.le E E'
  cut : ∀ n, post.length ≤ n → E' n = none
  objs : ∀ (n : Nat) (o : AObj), post[n]? = some o → ∃ b c, E' n = some (b, c) ∧ ObjR E' w' b c o
  made : ∀ (n b : Nat) (c : Cap) (o : AObj), pre.length ≤ n → post[n]? = some o → E' n = some (b, c) → touches b c o b → w.heap.size ≤ b ∨ ∃ (j : Nat) (c' : Cap) (o : AObj), pre[j]? = some o ∧ o.owned = true ∧ post[j]? = some AObj.dead ∧ E j = some (b, c')
  bare : ∀ (n b : Nat) (c : Cap), pre.length ≤ n → E' n = some (b, c) → c.bare
  keep : ∀ k : Nat, k < w.heap.size → (∀ (n : Nat) (o : AObj) (c : Cap), pre[n]? = some o → o.owned = true → E n ≠ some (k, c)) → w'.heap[k]? = w.heap[k]?
  newApart : ∀ (n m : Nat) (o o' : AObj) (b : Nat) (c : Cap) (b' : Nat) (c' : Cap), pre.length ≤ n → pre.length ≤ m → post[n]? = some o → post[m]? = some o' → o.owned = true → o'.live = true → E' n = some (b, c) → E' m = some (b', c') → n ≠ m → ¬ touches b' c' o' b
  grow : w.heap.size ≤ w'.heap.size
  os : w'.os = w.os
  tape : w'.tape = w.tape
  output : w'.output = w.output
def WR (ro : Option Nat) : Fence := { Fence.wide with round := ro }
def roundTmps (r : Loop) (ys : List Value) : Array Value := (r.params.zip ys.toArray).foldl (fun t (p, v) => t.setIfInBounds p v) r.tmps
theorem calls_WR {ro : Option Nat} {n : Nat} {P : Program} {f : FuncId} {args : Array Value} {w : World} {R : Ending → World → Prop} : CallsIn (WR ro) n P f args w R ↔ Calls P f args w R := callsIn_wide (n := n)
def Does (P : Program) (f : FuncId) (args : Array Value) (w : World) (R : Ending → World → Prop) : Prop :=
  if f = yF then ∃ (l : Nat) (r : Loop) (ys : List Value), args.toList = .pointer (some ⟨l, 0, none⟩) :: ys ∧ w.heap[l]? = some (.loop r) ∧ ys.length = r.params.size ∧ ∀ ro, RoundIn (WR ro) 0 P l r.fn (roundTmps r ys) r.assign r.body w R
  else (∃ g as, (callFunc f args).run P w = .ok (.enter g as) w ∧ Calls P g as w R) ∨ (∃ v w', (callFunc f args).run P w = .ok (.value v) w' ∧ R (.returned v) w')
theorem Does.of {P : Program} {f : FuncId} {args : Array Value} {w : World} {R : Ending → World → Prop} (hf : f ≠ yF) (h : (∃ g as, (callFunc f args).run P w = .ok (.enter g as) w ∧ Calls P g as w R) ∨ (∃ v w', (callFunc f args).run P w = .ok (.value v) w' ∧ R (.returned v) w')) : Does P f args w R := by
  unfold Does; rw [if_neg hf]; exact h
theorem Does.to {P : Program} {f : FuncId} {args : Array Value} {w : World} {R : Ending → World → Prop} (hf : f ≠ yF) (h : Does P f args w R) : (∃ g as, (callFunc f args).run P w = .ok (.enter g as) w ∧ Calls P g as w R) ∨ (∃ v w', (callFunc f args).run P w = .ok (.value v) w' ∧ R (.returned v) w') := by
  unfold Does at h; rw [if_neg hf] at h; exact h
theorem Does.mono {f : FuncId} {args : Array Value} {R R' : Ending → World → Prop} (h : Does P f args w R) (hr : ∀ e w', R e w' → R' e w') : Does P f args w R' := by
  unfold Does at h ⊢
  split
  · rename_i hf
    rw [if_pos hf] at h
    obtain ⟨l, r, ys, h1, h2, h3, h4⟩ := h
    exact ⟨l, r, ys, h1, h2, h3, fun ro => (h4 ro).mono hr⟩
  · rename_i hf
    rw [if_neg hf] at h
    rcases h with ⟨g, as, h1, h2⟩ | ⟨v, w', h1, h2⟩
    · exact .inl ⟨g, as, h1, h2.mono hr⟩
    · exact .inr ⟨v, w', h1, hr _ _ h2⟩
def Meets (P : Program) (f : FuncId) (args : List AV) (pre : List AObj) (res : AV) (post : List AObj) : Prop :=
  ∀ (w : World) (E : Env) (xs : List Value), denL E args = some xs → PreR E w pre →
    Does P f xs.toArray w fun e w' => ∃ E' x, e = .returned x ∧ den E' res = some x ∧ PostR E E' w w' pre post
def updOf (r : List Nat) : List AObj → List AObj → List AObj → List AObj
  | c :: cs, p :: pre, q :: post => (if p.owned then q.ren r else c) :: updOf r cs pre post
  | _, _, _ => []
def fitsOf (r : List Nat) : List AObj → List AObj → List Prop
  | c :: cs, p :: pre => Fits c (p.ren r) :: fitsOf r cs pre
  | _, _ => []
def callA (h : Hint) (P : Program) (o : Op) (vals : List AV) (cs : List AObj) : Option Res :=
  match o, vals, h.call with
  | .call c, .func f first caps :: args, some k =>
    match c.callee with
    | .value _ =>
      if k.ren.length == k.post.length && k.pre.length ≤ k.post.length && cs.length == k.pre.length && (k.pre.zip cs).all (fun p => (!p.1.owned || p.2.owned) && (!p.2.isFlat || p.1.isFlat)) && cs.all (·.live) then
        let obl := (first ++ args ++ caps = renL k.ren k.args) :: Meets P f k.args k.pre k.res k.post :: fitsOf k.ren cs k.pre
        let upd := updOf k.ren cs k.pre k.post
        let new := (k.post.drop k.pre.length).map (·.ren k.ren)
        match h.val, h.obj with
        | some v, some os => some ⟨obl ++ [k.res.ren k.ren = v, upd ++ new = os], v, os.take upd.length, os.drop upd.length⟩
        | some v, none => some ⟨obl ++ [k.res.ren k.ren = v], v, upd, new⟩
        | none, some os => some ⟨obl ++ [upd ++ new = os], k.res.ren k.ren, os.take upd.length, os.drop upd.length⟩
        | none, none => some ⟨obl, k.res.ren k.ren, upd, new⟩
      else none
    | _ => none
  | _, _, _ => none
theorem callA_cases {h : Hint} {o : Op} {vals : List AV} {cs : List AObj} {r : Res} (e : callA h P o vals cs = some r) (k : AllP r.obl) :
    ∃ c f first caps args k, o = .call c ∧ vals = .func f first caps :: args ∧ h.call = some k ∧ (∃ x, c.callee = .value x) ∧ k.ren.length = k.post.length ∧ k.pre.length ≤ k.post.length ∧ cs.length = k.pre.length ∧
      ((k.pre.zip cs).all (fun p => (!p.1.owned || p.2.owned) && (!p.2.isFlat || p.1.isFlat))) = true ∧ (cs.all (·.live)) = true ∧ first ++ args ++ caps = renL k.ren k.args ∧ Meets P f k.args k.pre k.res k.post ∧ AllP (fitsOf k.ren cs k.pre) ∧ r.val = k.res.ren k.ren ∧ r.upd = updOf k.ren cs k.pre k.post ∧ r.new = (k.post.drop k.pre.length).map (·.ren k.ren) := by
  unfold callA at e
  split at e
  · rename_i c f first caps args kk hk
    split at e
    · rename_i x hx
      split at e
      · rename_i hc
        simp only [Bool.and_eq_true, beq_iff_eq, decide_eq_true_eq] at hc
        obtain ⟨⟨⟨⟨c1, c2⟩, c3⟩, c4⟩, c5⟩ := hc
        simp only at e
        have fin : ∀ {a b : List AObj}, (a ++ b).take a.length = a ∧ (a ++ b).drop a.length = b := fun {a b} => ⟨List.take_left, List.drop_left⟩
        split at e
        · rename_i v os hv hos
          cases e
          obtain ⟨k1, k2⟩ := qzu.1 k
          obtain ⟨k1, k3, k4⟩ := k1
          obtain ⟨k5, k6, _⟩ := k2
          have k5 : kk.res.ren kk.ren = v := k5
          have k6 : updOf kk.ren cs kk.pre kk.post ++ List.map (fun x => x.ren kk.ren) (kk.post.drop kk.pre.length) = os := k6
          exact ⟨c, f, first, caps, args, kk, rfl, rfl, hk, ⟨x, hx⟩, c1, c2, c3, c4, c5, k1, k3, k4, k5.symm, by rw [← k6]; exact fin.1, by rw [← k6]; exact fin.2⟩
        · rename_i v hv hos
          cases e
          obtain ⟨k1, k2⟩ := qzu.1 k
          obtain ⟨k1, k3, k4⟩ := k1
          obtain ⟨k5, _⟩ := k2
          have k5 : kk.res.ren kk.ren = v := k5
          exact ⟨c, f, first, caps, args, kk, rfl, rfl, hk, ⟨x, hx⟩, c1, c2, c3, c4, c5, k1, k3, k4, k5.symm, rfl, rfl⟩
        · rename_i os hv hos
          cases e
          obtain ⟨k1, k2⟩ := qzu.1 k
          obtain ⟨k1, k3, k4⟩ := k1
          obtain ⟨k6, _⟩ := k2
          have k6 : updOf kk.ren cs kk.pre kk.post ++ List.map (fun x => x.ren kk.ren) (kk.post.drop kk.pre.length) = os := k6
          exact ⟨c, f, first, caps, args, kk, rfl, rfl, hk, ⟨x, hx⟩, c1, c2, c3, c4, c5, k1, k3, k4, rfl, by rw [← k6]; exact fin.1, by rw [← k6]; exact fin.2⟩
        · cases e
          obtain ⟨k1, k3, k4⟩ := k
          exact ⟨c, f, first, caps, args, kk, rfl, rfl, hk, ⟨x, hx⟩, c1, c2, c3, c4, c5, k1, k3, k4, rfl, rfl, rfl⟩
      · cases e
    · cases e
  · cases e
end Go.Proofs.YtphhepnldndbhaaGreatDoor.Sx
namespace Go.Proofs.YtphhepnldndbhaaGreatDoor.Sx
open Go
variable {P : Program} {E : Env} {w : World}
theorem updOf_get {r : List Nat} : ∀ (cs pre post : List AObj) (i : Nat) (o : AObj), (updOf r cs pre post)[i]? = some o →
    ∃ c p q, cs[i]? = some c ∧ pre[i]? = some p ∧ post[i]? = some q ∧ o = if p.owned then q.ren r else c
  | [], _, _, i, o, h => by simp [updOf] at h
  | _ :: _, [], _, i, o, h => by simp [updOf] at h
  | _ :: _, _ :: _, [], i, o, h => by simp [updOf] at h
  | c :: cs, p :: pre, q :: post, 0, o, h => by
    simp [updOf] at h; exact ⟨c, p, q, rfl, rfl, rfl, h.symm⟩
  | c :: cs, p :: pre, q :: post, i + 1, o, h => by
    simp only [updOf, List.getElem?_cons_succ] at h
    simpa using updOf_get cs pre post i o h
theorem updOf_at {r : List Nat} : ∀ (cs pre post : List AObj) (i : Nat) (c p q : AObj), cs[i]? = some c → pre[i]? = some p → post[i]? = some q → (updOf r cs pre post)[i]? = some (if p.owned then q.ren r else c)
  | [], _, _, i, _, _, _, h, _, _ => by simp at h
  | _ :: _, [], _, i, _, _, _, _, h, _ => by simp at h
  | _ :: _, _ :: _, [], i, _, _, _, _, _, h => by simp at h
  | c :: cs, p :: pre, q :: post, 0, _, _, _, h1, h2, h3 => by
    simp at h1 h2 h3; subst h1; subst h2; subst h3; simp [updOf]
  | c :: cs, p :: pre, q :: post, i + 1, a, b, d, h1, h2, h3 => by
    simp only [updOf, List.getElem?_cons_succ]
    exact updOf_at cs pre post i a b d (by simpa using h1) (by simpa using h2) (by simpa using h3)
theorem fitsOf_get {r : List Nat} : ∀ (cs pre : List AObj) (i : Nat) (c p : AObj), AllP (fitsOf r cs pre) → cs[i]? = some c → pre[i]? = some p → Fits c (p.ren r)
  | [], _, i, c, p, _, h, _ => by simp at h
  | _ :: _, [], i, c, p, _, _, h => by simp at h
  | c :: cs, p :: pre, 0, _, _, h, h1, h2 => by
    simp at h1 h2; subst h1; subst h2; exact h.1
  | c :: cs, p :: pre, i + 1, a, b, h, h1, h2 => fitsOf_get cs pre i a b h.2 (by simpa using h1) (by simpa using h2)
theorem all_zip {a b : List AObj} {f : AObj → AObj → Bool} (h : ((a.zip b).all fun p => f p.1 p.2) = true) {i : Nat} {x y : AObj} (h1 : a[i]? = some x) (h2 : b[i]? = some y) : f x y = true := by
  have : (a.zip b)[i]? = some (x, y) := by simp [List.getElem?_zip_eq_some, h1, h2]
  exact List.all_eq_true.1 h _ (List.mem_of_getElem? this)
theorem mem_ws {ren : List Nat} {pre : List AObj} {n : Nat} : n ∈ ((ren.zip pre).filter fun p => p.2.owned).map (·.1) ↔ ∃ (i : Nat) (o : AObj), ren[i]? = some n ∧ pre[i]? = some o ∧ o.owned = true := by
  simp only [List.mem_map, List.mem_filter]
  constructor
  · rintro ⟨⟨m, o⟩, ⟨hm, ho⟩, rfl⟩
    obtain ⟨i, hi⟩ := List.getElem?_of_mem hm
    rw [List.getElem?_zip_eq_some] at hi
    exact ⟨i, o, hi.1, hi.2, ho⟩
  · rintro ⟨i, o, h1, h2, h3⟩
    exact ⟨(n, o), ⟨List.mem_of_getElem? (i := i) (by rw [List.getElem?_zip_eq_some]; exact ⟨h1, h2⟩), h3⟩, rfl⟩
theorem resolve_value {ρ : Operand → Value} {c : Call} {x : Operand} {ty : TypeId} {f : FuncId} {a b : Array Value} (hc : c.callee = .value x) (hx : ρ x = .func (.func f) a b) :
    (do let d ← resolve ρ c ty; invoke d.target d.args : Sem Next).run P w = (callFunc f (a ++ c.args.map ρ ++ b)).run P w := by
  simp only [resolve, hc, Deferred.ofValue, hx, Sem.run_bind, Sem.run_pure, Result.andThen_ok, invoke]
theorem resolve_yield {ρ : Operand → Value} {c : Call} {x : Operand} {ty : TypeId} {l : Nat} {r : Loop} {ys : List Value} (hc : c.callee = .value x) (hx : ρ x = .func (.yield l) #[] #[]) (ha : (c.args.map ρ).toList = ys) (hl : w.heap[l]? = some (.loop r)) (hs : ys.length = r.params.size) :
    (do let d ← resolve ρ c ty; invoke d.target d.args : Sem Next).run P w = .ok (.round l r.fn (roundTmps r ys) r.assign r.body) w := by
  have e : (c.args.map ρ) = ys.toArray := by rw [← ha]
  have := run_yield (P := P) (args := ys.toArray) hl (by simpa using hs)
  simp only [resolve, hc, Deferred.ofValue, hx, Sem.run_bind, Sem.run_pure, Result.andThen_ok, invoke, e]
  simpa [roundTmps] using this
theorem call_sound {o : Oper} {ρ : Operand → Value} {h : Hint} {vals : List AV} {F : Foot} {cs : List AObj} {r : Res} (hv : denL E vals = some (o.op.operands.toList.map ρ)) (hf : foot h o.op vals = some F) (hp : Pre E w F cs)
    (hr : callA h P o.op vals cs = some r) (kk : AllP r.obl) :
    ∃ f args, (f ≠ yF → (execOp ρ o).run P w = (callFunc f args).run P w) ∧ (f = yF → ∀ (l : Nat) (r : Loop) (ys : List Value), args.toList = .pointer (some ⟨l, 0, none⟩) :: ys → w.heap[l]? = some (.loop r) → ys.length = r.params.size → (execOp ρ o).run P w = .ok (.round l r.fn (roundTmps r ys) r.assign r.body) w) ∧
      (∃ c, o.op = .call c) ∧ Does P f args w fun e w' => ∃ E' x, e = .returned x ∧ den E' r.val = some x ∧ Eff E E' w w' F r.upd r.new := by
  obtain ⟨c, f, first, caps, args, k, ho, hvals, hk, ⟨x, hx⟩, c1, c2, c3, c4, c5, k1, kmeet, k3, e1, e2, e3⟩ := callA_cases hr kk
  have hF : F = ⟨k.ren.take k.pre.length, ((k.ren.zip k.pre).filter fun p => p.2.owned).map (·.1), k.ren.drop k.pre.length⟩ := by
    rw [ho, hvals] at hf; simp only [foot, hx, hk, Option.some.injEq] at hf; exact hf.symm
  rw [ho, hvals] at hv
  simp only [Op.operands, Call.operands, hx] at hv
  have hv' : denL E (.func f first caps :: args) = some (ρ x :: c.args.toList.map ρ) := by simpa using hv
  obtain ⟨d1, d2⟩ := denL_split hv'
  have key : ∃ as bs, denL E first = some as ∧ denL E caps = some bs ∧ (f ≠ yF → ρ x = .func (.func f) as.toArray bs.toArray) ∧ (f = yF → ∃ l, as = [.pointer (some ⟨l, 0, none⟩)] ∧ bs = [] ∧ ρ x = .func (.yield l) #[] #[]) := by
    simp only [den] at d1
    split at d1
    · rename_i hf
      obtain ⟨nm, p, rfl, rfl, hp', hρ⟩ := yfOf_some d1
      exact ⟨[.pointer (some ⟨p.1, 0, none⟩)], [], qxz.2 ⟨_, [], by simp [den, hp'], rfl, rfl⟩, rfl, fun h => absurd hf h, fun _ => ⟨p.1, rfl, rfl, hρ⟩⟩
    · rename_i hf
      split at d1
      · rename_i as bs ha hb
        exact ⟨as, bs, ha, hb, fun _ => (Option.some.inj d1).symm, fun h => absurd h hf⟩
      · cases d1
  obtain ⟨as, bs, ha, hb, hρ1, hρ2⟩ := key
  · refine ⟨f, as.toArray ++ c.args.map ρ ++ bs.toArray, fun hf => ?_, fun hf l r' ys h1 h2 h3 => ?_, ⟨c, ho⟩, ?_⟩
    · have := resolve_value (P := P) (w := w) (ty := o.type) hx (hρ1 hf)
      simp only [execOp, ho]
      exact this
    · obtain ⟨l', rfl, rfl, hρ⟩ := hρ2 hf
      simp only [Array.toList_append, List.append_nil, List.cons_append, List.nil_append, List.cons.injEq, Value.pointer.injEq, Option.some.injEq, Addr.mk.injEq, and_true] at h1
      obtain ⟨rfl, h1⟩ := h1
      have := resolve_yield (P := P) (w := w) (ty := o.type) (ys := ys) hx hρ (by simpa using h1) h2 h3
      simp only [execOp, ho]
      exact this
    · have hargs : denL E (renL k.ren k.args) = some (as ++ c.args.toList.map ρ ++ bs) := by
        rw [← k1]; exact denL_append (denL_append ha d2) hb
      let Ec : Env := fun i => if i < k.pre.length then (k.ren[i]?).bind E else none
      have hfreshal : ∀ i m, k.pre.length ≤ i → k.ren[i]? = some m → E m = none := fun i m hi hm =>
        hp.fresh m (by rw [hF]; exact List.mem_of_getElem? (i := i - k.pre.length) (by rw [List.getElem?_drop]; rwa [show k.pre.length + (i - k.pre.length) = i by omega]))
      have hEc : ∀ i m p, k.ren[i]? = some m → E m = some p → Ec i = some p := fun i m p hi hm => by
        by_cases hlt : i < k.pre.length
        · simp only [Ec, if_pos hlt, hi, Option.bind_some, hm]
        · rw [hfreshal i m (by omega) hi] at hm; cases hm
      have hEc' : ∀ i p, Ec i = some p → ∃ m, i < k.pre.length ∧ k.ren[i]? = some m ∧ E m = some p := fun i p hi => by
        simp only [Ec] at hi
        split at hi
        · rename_i hlt
          obtain ⟨m, hm, hE⟩ := Option.bind_eq_some_iff.1 hi
          exact ⟨m, hlt, hm, hE⟩
        · cases hi
      have hrd : ∀ i m, i < k.pre.length → k.ren[i]? = some m → F.rd[i]? = some m := fun i m hi hm => by
        rw [hF]; simp only [List.getElem?_take, if_pos hi, hm]
      have hcs : ∀ i (p : AObj), k.pre[i]? = some p → ∃ m q, k.ren[i]? = some m ∧ cs[i]? = some q ∧ i < k.pre.length := fun i p hi => by
        have hlt := (List.getElem?_eq_some_iff.1 hi).1
        exact ⟨k.ren[i]'(by omega), cs[i]'(by omega), List.getElem?_eq_getElem _, List.getElem?_eq_getElem _, hlt⟩
      have hwr : ∀ i (p : AObj), k.pre[i]? = some p → p.owned = true → F.wr = true := fun i p hi ho' => by
        obtain ⟨m, q, hm, _, _⟩ := hcs i p hi
        have : m ∈ F.ws := by rw [hF]; exact mem_ws.2 ⟨i, p, hm, hi, ho'⟩
        unfold Foot.wr
        cases hws : F.ws with
        | nil => rw [hws] at this; cases this
        | cons a l => rfl
      have hne : ∀ i j m m' (p : AObj), k.pre[i]? = some p → p.owned = true → i ≠ j → j < k.pre.length → k.ren[i]? = some m → k.ren[j]? = some m' → m ≠ m' := fun i j m m' p hi ho' hij hj hm hm' => by
        have hnd := hp.rdNodup (hwr i p hi ho')
        have hli := (List.getElem?_eq_some_iff.1 hi).1
        rintro rfl
        exact hij ((List.getElem?_inj (List.getElem?_eq_some_iff.1 (hrd i m hli hm)).1 hnd).1 (by rw [hrd i m hli hm, hrd j m hj hm']))
      have hpre : PreR Ec w k.pre :=
        { objs := fun n o' hn => by
            obtain ⟨m, q, hm, hq, hlt⟩ := hcs n o' hn
            obtain ⟨b, cc, hb, hob⟩ := hp.objs n m q (hrd n m hlt hm) hq
            exact ⟨b, cc, hEc n m _ hm hb, (fitsOf_get cs k.pre n q o' k3 hq hn E w b cc hob).unren hEc⟩
          fresh := fun n hn => by simp only [Ec]; rw [if_neg (by omega)]
          apart := fun n m o1 o2 b cc b' c' h1 h2 h3 h4 h5 h6 h7 => by
            obtain ⟨x1, q1, hx1, hq1, hl1⟩ := hcs n o1 h1
            obtain ⟨x2, q2, hx2, hq2, hl2⟩ := hcs m o2 h2
            obtain ⟨y1, _, hy1, hE1⟩ := hEc' n _ h5
            obtain ⟨y2, _, hy2, hE2⟩ := hEc' m _ h6
            rw [hx1] at hy1; cases hy1
            rw [hx2] at hy2; cases hy2
            have hown : q1.owned = true := by
              have := all_zip (f := fun a b => (!a.owned || b.owned) && (!b.isFlat || a.isFlat)) c4 h1 hq1
              simp only [h3, Bool.and_eq_true] at this; simpa using this.1
            have hlive : q2.live = true := List.all_eq_true.1 c5 q2 (List.mem_of_getElem? hq2)
            have hflat : q2.isFlat = true → o2.isFlat = true := fun e => by
              have := all_zip (f := fun a b => (!a.owned || b.owned) && (!b.isFlat || a.isFlat)) c4 h2 hq2
              simp only [e, Bool.and_eq_true] at this; simpa using this.2
            exact fun ht => hp.apart n m x1 x2 q1 q2 b cc b' c' (hrd n x1 hl1 hx1) (hrd m x2 hl2 hx2) hq1 hq2 hown hlive hE1 hE2 (hne n m x1 x2 o1 h1 h3 h7 hl2 hx1 hx2) (touches_fit hflat ht)
          glob := fun g hg => by
            obtain ⟨g1, g2, g3⟩ := hp.glob g hg
            refine ⟨g1, ?_, g3⟩
            rintro ⟨n, o1, cc, h1, h3, h5⟩
            obtain ⟨x1, q1, hx1, hq1, hl1⟩ := hcs n o1 h1
            obtain ⟨y1, _, hy1, hE1⟩ := hEc' n _ h5
            rw [hx1] at hy1; cases hy1
            have hown : q1.owned = true := by
              have := all_zip (f := fun a b => (!a.owned || b.owned) && (!b.isFlat || a.isFlat)) c4 h1 hq1
              simp only [h3, Bool.and_eq_true] at this; simpa using this.1
            exact g2 ⟨n, x1, q1, cc, hrd n x1 hl1 hx1, hq1, hown, hE1⟩
          nest := fun m b c j e1 e2 => by
            obtain ⟨y1, _, hy1, hE1⟩ := hEc' m _ e1
            obtain ⟨g1, g2⟩ := hp.nest y1 b c j hE1 e2
            refine ⟨g1, fun n o1 cc h1 h3 h5 => ?_⟩
            obtain ⟨x1, q1, hx1, hq1, hl1⟩ := hcs n o1 h1
            obtain ⟨y2, _, hy2, hE2⟩ := hEc' n _ h5
            rw [hx1] at hy2; cases hy2
            have hown : q1.owned = true := by
              have := all_zip (f := fun a b => (!a.owned || b.owned) && (!b.isFlat || a.isFlat)) c4 h1 hq1
              simp only [h3, Bool.and_eq_true] at this; simpa using this.1
            exact g2 n x1 q1 cc (hrd n x1 hl1 hx1) hq1 hown hE2 }
      have hcall := kmeet w Ec (as ++ c.args.toList.map ρ ++ bs) (renL_den hEc _ _ hargs) hpre
      have earr : (as ++ c.args.toList.map ρ ++ bs).toArray = as.toArray ++ c.args.map ρ ++ bs.toArray := by
        apply Array.ext'; simp
      rw [earr] at hcall
      refine hcall.mono ?_
      rintro e w' ⟨E'c, y, rfl, hy, hpost⟩
      let al := k.ren.drop k.pre.length
      have hal : F.al = al := by rw [hF]
      have hnd : al.Nodup := hal ▸ hp.nodup
      let E' : Env := fun m => if m ∈ al then E'c (k.pre.length + al.idxOf m) else E m
      have hE'al : ∀ j m, al[j]? = some m → E' m = E'c (k.pre.length + j) := fun j m hj => by
        have hmem := List.mem_of_getElem? hj
        simp only [E', if_pos hmem]
        obtain ⟨hlt, rfl⟩ := List.getElem?_eq_some_iff.1 hj
        rw [hnd.idxOf_getElem]
      have hE'old : ∀ m, m ∉ al → E' m = E m := fun m hm => by simp only [E', if_neg hm]
      have hle : Env.le E E' := fun n p hn => by
        rw [hE'old n]; exact hn
        intro hmem
        rw [hp.fresh n (hal ▸ hmem)] at hn; cases hn
      have hren : ∀ i p, E'c i = some p → ∃ m, k.ren[i]? = some m ∧ E' m = some p := fun i p hi => by
        have hlt : i < k.post.length := by
          rcases Nat.lt_or_ge i k.post.length with h | h
          · exact h
          · rw [hpost.cut i h] at hi; cases hi
        have hm : k.ren[i]? = some (k.ren[i]'(by omega)) := List.getElem?_eq_getElem _
        refine ⟨_, hm, ?_⟩
        by_cases hpl : i < k.pre.length
        · obtain ⟨b, cc, hb, _⟩ := hpre.objs i (k.pre[i]) (List.getElem?_eq_getElem hpl)
          have := hpost.le i _ hb
          rw [hi] at this; cases this
          obtain ⟨m', _, hm', hEm⟩ := hEc' i _ hb
          rw [hm] at hm'; cases hm'
          exact hle _ _ hEm
        · have := hE'al (i - k.pre.length) (k.ren[i]'(by omega)) (by simp only [al, List.getElem?_drop]; rw [show k.pre.length + (i - k.pre.length) = i by omega]; exact hm)
          rw [this, show k.pre.length + (i - k.pre.length) = i by omega]; exact hi
      refine ⟨E', y, rfl, by rw [e1]; exact den_ren hren _ _ hy, ?_⟩
      exact {
        le := hle
        only := fun n hn => hE'old n (hal ▸ hn)
        wrote := fun hw i n o' h1 h2 => by
          rw [e2] at h2
          obtain ⟨q, p, s, hq, hpq, hs, rfl⟩ := updOf_get cs k.pre k.post i o' h2
          obtain ⟨m, q', hm, hq', hlt⟩ := hcs i p hpq
          rw [hrd i m hlt hm] at h1; cases h1
          obtain ⟨b, cc, hb, hob⟩ := hp.objs i n q (hrd i n hlt hm) hq
          refine ⟨b, cc, hb, ?_⟩
          cases ho' : p.owned with
          | true =>
            simp only [if_true]
            obtain ⟨b2, c2', hb2, hob2⟩ := hpost.objs i s hs
            have := hpost.le i _ (hEc i n _ hm hb)
            rw [hb2] at this; cases this
            exact hob2.ren hren
          | false =>
            simp only [Bool.false_eq_true, if_false]
            have hlive : q.live = true := List.all_eq_true.1 c5 q (List.mem_of_getElem? hq)
            refine (hob.block (fun hl0 ht0 => hpost.keep b (hob.lt hl0 ht0) fun j o2 c2 h3 h4 h5 => ?_) fun h1 k hk => hpost.keep k (hob.ltN h1 hk) fun j o2 c2 h3 h4 h5 => (hpre.nest i b cc k (hEc i n _ hm hb) hk).2 j o2 c2 h3 h4 h5).mono hle
            obtain ⟨m2, hlt2, hm2, hE2⟩ := hEc' j _ h5
            obtain ⟨_, q2, hm2', hq2, _⟩ := hcs j o2 h3
            have hown : q2.owned = true := by
              have := all_zip (f := fun a b => (!a.owned || b.owned) && (!b.isFlat || a.isFlat)) c4 h3 hq2
              simp only [h4, Bool.and_eq_true] at this; simpa using this.1
            have hnm : j ≠ i := by rintro rfl; rw [hpq] at h3; cases h3; rw [ho'] at h4; cases h4
            exact hp.apart j i m2 n q2 q b c2 b cc (hrd j m2 hlt2 hm2) (hrd i n hlt hm) hq2 hq hown hlive hE2 hb (hne j i m2 n o2 h3 h4 hnm hlt hm2 hm) ht0
        made := fun i n o' h1 h2 => by
          rw [hal] at h1
          rw [e3] at h2
          simp only [List.getElem?_map, Option.map_eq_some_iff] at h2
          obtain ⟨s, hs, rfl⟩ := h2
          rw [List.getElem?_drop] at hs
          obtain ⟨b, cc, hb, hob⟩ := hpost.objs _ s hs
          refine ⟨b, cc, (hE'al i n h1).trans hb, hob.ren hren, fun ht => ?_⟩
          rcases hpost.made _ b cc s (Nat.le_add_right _ _) hs hb (touches_ren ht) with h | ⟨j, c', o2, g1, g2, g3, g4⟩
          · exact .inl h
          · obtain ⟨m2, hlt2, hm2, hE2⟩ := hEc' j _ g4
            obtain ⟨_, q2, _, hq2, _⟩ := hcs j o2 g1
            refine .inr <| .inl ⟨hwr j o2 g1 g2, j, m2, c', hrd j m2 hlt2 hm2, ?_, hE2⟩
            rw [e2, updOf_at cs k.pre k.post j q2 o2 _ hq2 g1 g3, g2]; rfl
        keep := fun j hj hne' => hpost.keep j hj fun n o2 c2 h3 h4 h5 => by
          obtain ⟨m2, _, hm2, hE2⟩ := hEc' n _ h5
          exact hne' m2 (by rw [hF]; exact mem_ws.2 ⟨n, o2, hm2, h3, h4⟩) c2 hE2
        bare := fun n b c k1 hn he hu => by
          rw [hal] at hn
          obtain ⟨j, hj⟩ := List.getElem?_of_mem hn
          exact absurd hu (hpost.bare _ b c (Nat.le_add_right _ j) ((hE'al j n hj).symm.trans he) _)
        newApart := fun i j n m o1 o2 b cc b' c' h1 h2 g1 g2 w1 w2 h3 h4 h5 => by
          rw [hal] at h1 h2
          rw [hE'al i n h1] at h3
          rw [hE'al j m h2] at h4
          rw [e3] at g1 g2
          simp only [List.getElem?_map, Option.map_eq_some_iff] at g1 g2
          obtain ⟨s1, hs1, rfl⟩ := g1
          obtain ⟨s2, hs2, rfl⟩ := g2
          rw [List.getElem?_drop] at hs1 hs2
          exact fun ht => hpost.newApart _ _ s1 s2 b cc b' c' (Nat.le_add_right _ _) (Nat.le_add_right _ _) hs1 hs2 (by rw [← AObj.ren_owned]; exact w1) (by rw [← AObj.ren_live]; exact w2) h3 h4 (by omega) (touches_ren ht)
        grow := hpost.grow, os := hpost.os, tape := hpost.tape, output := hpost.output }
end Go.Proofs.YtphhepnldndbhaaGreatDoor.Sx
namespace Go.Proofs.YtphhepnldndbhaaGreatDoor.Sx
open Go
variable {P : Program}
def AState.put (s : AState) (dst : Option Tmp) (v : AV) : AState :=
  match dst with
  | some d => { s with slots := s.slots.set d (some v) }
  | none => s
def setMem (mem : List (Option AObj)) : List Nat → List AObj → List (Option AObj)
  | n :: ns, o :: os => setMem (mem.set n (some o)) ns os
  | _, _ => mem
def evs (s : AState) : List Operand → Option (List AV)
  | [] => some []
  | x :: xs => match s.ev x, evs s xs with
    | some v, some vs => some (v :: vs)
    | _, _ => none
def objs (mem : List (Option AObj)) : List Nat → Option (List AObj)
  | [] => some []
  | n :: ns => match mem[n]?, objs mem ns with
    | some (some o), some os => some (o :: os)
    | _, _ => none
def nodupB : List Nat → Bool
  | [] => true
  | n :: ns => !ns.contains n && nodupB ns
def freshB (mem : List (Option AObj)) (n : Nat) : Bool :=
  match mem[n]? with
  | some none => true
  | _ => false
def ownedB (mem : List (Option AObj)) (n : Nat) : Bool :=
  match mem[n]? with
  | some (some o) => o.owned
  | _ => false
def guardA (ops : Array Oper) (o : Oper) (s : AState) : Option Bool :=
  match o.guard with
  | none => some true
  | some (j, want) =>
    match (ops[j]?).bind (·.dst) with
    | some d => match (s.slots[d]?).join with
      | some (.bool b) => some (b == want)
      | some (.tuple []) => some false
      | _ => none
    | none => some false
def updOK : List AObj → List AObj → Bool
  | [], [] => true
  | u :: us, c :: cs => (!u.owned || c.owned) && (!u.live || c.live) && (u.live || c.owned) && (!c.isFlat || u.isFlat) && (!u.mine || c.mine) && updOK us cs
  | _, _ => false
structure Step where
  obl : List Prop
  foot : Foot
  st : AState
def astep (P : Program) (ops : Array Oper) (h : Hint) (o : Oper) (s : AState) : Option Step :=
  match guardA ops o s with
  | none => none
  | some false => some ⟨[], .no, s.put o.dst (.tuple [])⟩
  | some true =>
    match evs s o.op.operands.toList with
    | none => none
    | some vals =>
      match foot h o.op vals with
      | none => none
      | some F =>
        match objs s.mem F.rd with
        | none => none
        | some cs =>
          if nodupB F.al && (F.ws.isEmpty || nodupB F.rd) && F.al.all (freshB s.mem) && F.ws.all (F.rd.contains ·) && F.ws.all (ownedB s.mem) then
            match (match callA h P o.op vals cs with | some r => some r | none => act P h o.op vals cs) with
            | none => none
            | some r =>
              if r.new.length == F.al.length && (F.ws.isEmpty || updOK r.upd cs) then
                some ⟨r.obl, F, { s.put o.dst r.val with mem := setMem (if F.ws.isEmpty then s.mem else setMem s.mem F.rd r.upd) F.al r.new }⟩
              else none
          else none
theorem nodupB_spec : ∀ {l : List Nat}, nodupB l = true → l.Nodup
  | [], _ => List.nodup_nil
  | n :: ns, h => by
    simp only [nodupB, Bool.and_eq_true, Bool.not_eq_true', List.contains_eq_mem, decide_eq_false_iff_not] at h
    exact List.nodup_cons.2 ⟨h.1, nodupB_spec h.2⟩
theorem evs_den {w0 w : World} {M : Nat → Prop} {E : Env} {s : AState} {a : Act} (h : Rel w0 M E s a w) : ∀ (xs : List Operand) (vs : List AV), evs s xs = some vs → denL E vs = some (xs.map a.eval)
  | [], vs, e => by simp [evs] at e; subst e; rfl
  | x :: xs, vs, e => by
    simp only [evs] at e
    split at e
    · rename_i v us hv hu; cases e
      exact qxz.2 ⟨_, _, h.ev hv, evs_den h xs us hu, rfl⟩
    · cases e
theorem objs_get {mem : List (Option AObj)} : ∀ (ns : List Nat) (cs : List AObj), objs mem ns = some cs → cs.length = ns.length ∧ ∀ (i n : Nat) (o : AObj), ns[i]? = some n → cs[i]? = some o → mem[n]? = some (some o)
  | [], cs, h => by simp [objs] at h; subst h; exact ⟨rfl, fun i n o h => by simp at h⟩
  | n :: ns, cs, h => by
    simp only [objs] at h
    split at h
    · rename_i o os ho hos; cases h
      obtain ⟨hl, hg⟩ := objs_get ns os hos
      refine ⟨by simp [hl], fun i m o' h1 h2 => ?_⟩
      cases i with
      | zero => simp at h1 h2; subst h1; subst h2; exact ho
      | succ i => exact hg i m o' (by simpa using h1) (by simpa using h2)
    · cases h
theorem setMem_length : ∀ (ns : List Nat) (os : List AObj) (mem : List (Option AObj)), (setMem mem ns os).length = mem.length
  | [], _, mem => by simp [setMem]
  | _ :: _, [], mem => by simp [setMem]
  | n :: ns, o :: os, mem => by simp [setMem, setMem_length ns os]
theorem setMem_not : ∀ (ns : List Nat) (os : List AObj) (mem : List (Option AObj)) (n : Nat), n ∉ ns → (setMem mem ns os)[n]? = mem[n]?
  | [], _, mem, n, _ => by simp [setMem]
  | _ :: _, [], mem, n, _ => by simp [setMem]
  | m :: ns, o :: os, mem, n, h => by
    simp only [List.mem_cons, not_or] at h
    rw [setMem, setMem_not ns os _ n h.2, List.getElem?_set_ne (fun e => h.1 e.symm)]
theorem setMem_at : ∀ (ns : List Nat) (os : List AObj) (mem : List (Option AObj)) (i n : Nat) (o : AObj), ns.Nodup → n < mem.length → ns[i]? = some n → os[i]? = some o → (setMem mem ns os)[n]? = some (some o)
  | [], _, mem, i, n, o, _, _, h, _ => by simp at h
  | _ :: _, [], mem, i, n, o, _, _, _, h => by simp at h
  | m :: ns, u :: os, mem, 0, n, o, hn, hl, h1, h2 => by
    simp at h1 h2; subst h1; subst h2
    rw [setMem, setMem_not ns os _ _ (List.nodup_cons.1 hn).1]
    simp [hl]
  | m :: ns, u :: os, mem, i + 1, n, o, hn, hl, h1, h2 => by
    rw [setMem]
    exact setMem_at ns os _ i n o (List.nodup_cons.1 hn).2 (by simpa using hl) (by simpa using h1) (by simpa using h2)
theorem updOK_get : ∀ (us cs : List AObj) (i : Nat) (u c : AObj), updOK us cs = true → us[i]? = some u → cs[i]? = some c → (u.owned = true → c.owned = true) ∧ (u.live = true → c.live = true) ∧ (u.live = true ∨ c.owned = true) ∧ (c.isFlat = true → u.isFlat = true) ∧ (u.mine = true → c.mine = true)
  | [], [], i, u, c, _, h, _ => by simp at h
  | [], _ :: _, i, u, c, h, _, _ => by simp [updOK] at h
  | _ :: _, [], i, u, c, h, _, _ => by simp [updOK] at h
  | u :: us, c :: cs, 0, _, _, h, h1, h2 => by
    simp at h1 h2; subst h1; subst h2
    simp only [updOK, Bool.and_eq_true, Bool.or_eq_true, Bool.not_eq_true'] at h
    obtain ⟨⟨⟨⟨⟨a, b⟩, d⟩, f⟩, g⟩, _⟩ := h
    exact ⟨fun e => by simpa [e] using a, fun e => by simpa [e] using b, d, fun e => by simpa [e] using f, fun e => by simpa [e] using g⟩
  | u :: us, c :: cs, i + 1, x, y, h, h1, h2 => by
    simp only [updOK, Bool.and_eq_true] at h
    exact updOK_get us cs i x y h.2 (by simpa using h1) (by simpa using h2)
theorem updOK_length : ∀ (us cs : List AObj), updOK us cs = true → us.length = cs.length
  | [], [], _ => rfl
  | [], _ :: _, h => by simp [updOK] at h
  | _ :: _, [], h => by simp [updOK] at h
  | u :: us, c :: cs, h => by simp only [updOK, Bool.and_eq_true] at h; simp [updOK_length us cs h.2]
theorem Rel.put {w0 w : World} {M : Nat → Prop} {E : Env} {s : AState} {a : Act} (h : Rel w0 M E s a w) (dst : Option Tmp) {v : AV} {x : Value} (hd : den E v = some x) : Rel w0 M E (s.put dst v) (a.put dst x) w := by
  cases dst with
  | none => exact h
  | some d =>
    exact { h with
      size := by simp [Act.put, AState.put, h.size]
      slots := fun t u ht => by
        simp only [AState.put, Act.put] at ht ⊢
        by_cases e : d = t
        · subst e
          have hlt : d < s.slots.length := by
            have := (List.getElem?_eq_some_iff.1 ht).1; simpa using this
          rw [List.getElem?_set_self hlt] at ht
          cases ht
          exact ⟨x, by rw [Array.getElem?_setIfInBounds_self_of_lt (by rw [h.size]; exact hlt)], hd⟩
        · rw [List.getElem?_set_ne e] at ht
          obtain ⟨y, hy, hdy⟩ := h.slots t u ht
          exact ⟨y, by rw [Array.getElem?_setIfInBounds_ne e]; exact hy, hdy⟩ }
theorem Rel.step {w0 w w' : World} {M : Nat → Prop} {E E' : Env} {s : AState} {a : Act} {F : Foot} {cs upd new : List AObj} (h : Rel w0 M E s a w) (he : Eff E E' w w' F upd new) (hc : objs s.mem F.rd = some cs)
    (hal : F.al.Nodup) (hrd : F.ws = [] ∨ F.rd.Nodup) (hfr : ∀ n ∈ F.al, s.mem[n]? = some none) (hsub : ∀ n ∈ F.ws, n ∈ F.rd) (hnl : new.length = F.al.length) (hu : F.ws = [] ∨ updOK upd cs = true) (hws : ∀ n ∈ F.ws, ∀ o, s.mem[n]? = some (some o) → o.owned = true) :
    Rel w0 M E' { s with mem := setMem (if F.ws.isEmpty then s.mem else setMem s.mem F.rd upd) F.al new } a w' := by
  obtain ⟨hcl, hcg⟩ := objs_get F.rd cs hc
  let mem1 := if F.ws.isEmpty then s.mem else setMem s.mem F.rd upd
  have hl1 : mem1.length = s.mem.length := by
    simp only [mem1]; split
    · rfl
    · exact setMem_length _ _ _
  have hrdlt : ∀ n ∈ F.rd, ∃ o, s.mem[n]? = some (some o) := fun n hn => by
    obtain ⟨i, hi⟩ := List.getElem?_of_mem hn
    have hlt := (List.getElem?_eq_some_iff.1 hi).1
    exact ⟨_, hcg i n (cs[i]'(by omega)) hi (List.getElem?_eq_getElem _)⟩
  have hal_rd : ∀ n ∈ F.al, n ∉ F.rd := fun n hn hr => by
    obtain ⟨o, ho⟩ := hrdlt n hr
    rw [hfr n hn] at ho; cases ho
  have old : ∀ n o, mem1[n]? = some (some o) → (s.mem[n]? = some (some o) ∧ (n ∉ F.rd ∨ F.ws = [])) ∨ (F.ws ≠ [] ∧ ∃ i c, F.rd[i]? = some n ∧ upd[i]? = some o ∧ cs[i]? = some c ∧ s.mem[n]? = some (some c)) := fun n o hn => by
    simp only [mem1] at hn
    split at hn
    · rename_i hw; exact .inl ⟨hn, .inr (by simpa using hw)⟩
    · rename_i hw
      have hw : F.ws ≠ [] := by simpa using hw
      have hnd := hrd.resolve_left hw
      have hok := hu.resolve_left hw
      by_cases hm : n ∈ F.rd
      · obtain ⟨i, hi⟩ := List.getElem?_of_mem hm
        have hlt := (List.getElem?_eq_some_iff.1 hi).1
        have hul := updOK_length _ _ hok
        have hci : cs[i]? = some (cs[i]'(by omega)) := List.getElem?_eq_getElem _
        have hui : upd[i]? = some (upd[i]'(by omega)) := List.getElem?_eq_getElem _
        have hmem := hcg i n _ hi hci
        have hlt' := (List.getElem?_eq_some_iff.1 hmem).1
        rw [setMem_at F.rd upd s.mem i n _ hnd hlt' hi hui] at hn
        cases hn
        exact .inr ⟨hw, i, _, hi, hui, hci, hmem⟩
      · rw [setMem_not _ _ _ _ hm] at hn; exact .inl ⟨hn, .inl hm⟩
  have now : ∀ n o, (setMem mem1 F.al new)[n]? = some (some o) → (n ∉ F.al ∧ mem1[n]? = some (some o)) ∨ (∃ i, F.al[i]? = some n ∧ new[i]? = some o) := fun n o hn => by
    by_cases hm : n ∈ F.al
    · obtain ⟨i, hi⟩ := List.getElem?_of_mem hm
      have hlt := (List.getElem?_eq_some_iff.1 hi).1
      have hni : new[i]? = some (new[i]'(by omega)) := List.getElem?_eq_getElem _
      have hlt' := (List.getElem?_eq_some_iff.1 (hfr n hm)).1
      rw [setMem_at F.al new mem1 i n _ hal (by omega) hi hni] at hn
      cases hn
      exact .inr ⟨i, hi, hni⟩
    · rw [setMem_not _ _ _ _ hm] at hn; exact .inl ⟨hm, hn⟩
  have oldBlock : ∀ n o, mem1[n]? = some (some o) → ∃ b c o0, E n = some (b, c) ∧ E' n = some (b, c) ∧ s.mem[n]? = some (some o0) ∧ ObjR E' w' b c o ∧ (o.owned = true → o0.owned = true) ∧ (o.live = true → o0.live = true) ∧ (o0.isFlat = true → o.isFlat = true) ∧ (o.mine = true → o0.mine = true) := fun n o hn => by
    rcases old n o hn with ⟨hs, hor⟩ | ⟨hw, i, c0, hi, hui, hci, hs⟩
    · obtain ⟨b, c, hE, hob, _⟩ := h.mem n o hs
      refine ⟨b, c, o, hE, he.le _ _ hE, hs, ?_, id, id, id, id⟩
      cases hl : o.live with
      | false => cases o <;> simp [AObj.live] at hl; trivial
      | true =>
        refine (hob.block (fun hl0 ht0 => he.keep b (hob.lt hl0 ht0) fun m hm c2 hE2 => ?_) fun h1 k hk => he.keep k (hob.ltN h1 hk) fun m hm c2 hE2 => ?_).mono he.le
        rotate_left
        · obtain ⟨om, hom⟩ := hrdlt m (hsub m hm)
          obtain ⟨b5, c5, hE5, _, hM5⟩ := h.mem m om hom
          rw [hE2] at hE5; cases hE5
          obtain ⟨g1, g2⟩ := h.nest n b c k hE hk
          rcases hM5 (mine_owned (hws m hm om hom)) (touches_owned (hws m hm om hom)) with g | g
          · omega
          · exact g2 g
        obtain ⟨om, hom⟩ := hrdlt m (hsub m hm)
        have hnm : m ≠ n := by
          rintro rfl
          rcases hor with h1 | h1
          · exact h1 (hsub m hm)
          · rw [h1] at hm; cases hm
        exact h.apart m n om o b c2 b c hom hs (hws m hm om hom) hl hE2 hE hnm ht0
    · obtain ⟨b, c, hE, hob, _⟩ := h.mem n c0 hs
      have hwr : F.wr = true := by unfold Foot.wr; cases hh : F.ws with | nil => exact absurd hh hw | cons => rfl
      obtain ⟨b', c', hE', hob'⟩ := he.wrote hwr i n o hi hui
      rw [hE] at hE'; cases hE'
      obtain ⟨g1, g2, _, g4, g6⟩ := updOK_get _ _ i o c0 (hu.resolve_left hw) hui hci
      exact ⟨b, c, c0, hE, he.le _ _ hE, hs, hob', g1, g2, g4, g6⟩
  have newOld : ∀ (i n : Nat) (o : AObj) (m : Nat) (u : AObj) (b : Nat) (c : Cap) (b' : Nat) (c' : Cap), F.al[i]? = some n → new[i]? = some o → m ∉ F.al → mem1[m]? = some (some u) → (o.live = true) → (u.live = true) → (o.owned = true ∨ u.owned = true) → E' n = some (b, c) → E' m = some (b', c') → touches b c o b → touches b' c' u b' → b ≠ b' := fun i n o m u b c b' c' h1 h2 h3 h4 h5 h6 h7 h8 h9 ht1 ht2 => by
    obtain ⟨b2, c2, o0, hE, hE', hs, hob, g1, g2, g5, _⟩ := oldBlock m u h4
    rw [h9] at hE'; cases hE'
    obtain ⟨b3, c3, hE3, hob3, hor⟩ := he.made i n o h1 h2
    rw [h8] at hE3; cases hE3
    obtain ⟨b4, c4, hE4, hob4, hM4⟩ := h.mem m o0 hs
    rw [hE] at hE4; cases hE4
    have ht0 := touches_fit g5 ht2
    have hlt := hob4.lt (g2 h6) ht0
    rcases hor ht1 with h | ⟨hw, j, k, c5, hj, hd, hEk⟩ | ⟨hm0, m3, b3, c3, hE3, hu3⟩
    · omega
    rotate_left
    · have hu0 : u.owned = true := h7.resolve_left fun e => by have := mine_owned e; rw [hm0] at this; cases this
      obtain ⟨g3, g4⟩ := h.nest m3 b3 c3 b hE3 hu3
      rintro rfl
      rcases hM4 (mine_owned (g1 hu0)) (touches_owned (g1 hu0)) with g | g
      · omega
      · exact g4 g
    · rintro rfl
      have hwsne : F.ws ≠ [] := by intro e; rw [Foot.wr, e] at hw; cases hw
      have hlt2 := (List.getElem?_eq_some_iff.1 hj).1
      have hck : cs[j]? = some (cs[j]'(by omega)) := List.getElem?_eq_getElem _
      obtain ⟨_, _, g3, _⟩ := updOK_get _ _ j _ _ (hu.resolve_left hwsne) hd hck
      have hown : (cs[j]'(by omega)).owned = true := g3.resolve_left (by decide)
      have hsk := hcg j k _ hj hck
      by_cases hkm : k = m
      · subst hkm
        rcases old k u h4 with ⟨hs', hor'⟩ | ⟨_, i2, c6, hi2, hui2, _, _⟩
        · rcases hor' with g | g
          · exact g (List.mem_of_getElem? hj)
          · exact hwsne g
        · have : i2 = j := (List.getElem?_inj (List.getElem?_eq_some_iff.1 hi2).1 (hrd.resolve_left hwsne)).1 (by rw [hi2, hj])
          subst this
          rw [hd] at hui2; cases hui2; cases h6
      · exact h.apart k m _ o0 b c5 b c' hsk hs hown (g2 h6) hEk hE hkm ht0
  exact {
    size := h.size
    slots := fun t v ht => let ⟨x, hx, hd⟩ := h.slots t v ht; ⟨x, hx, den_mono he.le v x hd⟩
    defers := h.defers.keep fun D hD => by
      refine (he.keep D (Array.getElem?_eq_some_iff.1 hD).1 fun n hn c hE => ?_).trans hD
      obtain ⟨o, ho⟩ := hrdlt n (hsub n hn)
      obtain ⟨b, c', hE', hob, _⟩ := h.mem n o ho
      rw [hE] at hE'; cases hE'
      exact owned_undeferred hob (hws n hn o ho) hD
    fresh := fun n hn => by
      have hna : n ∉ F.al := fun hm => by
        obtain ⟨i, hi⟩ := List.getElem?_of_mem hm
        have hlt := (List.getElem?_eq_some_iff.1 hi).1
        have hni : new[i]? = some (new[i]'(by omega)) := List.getElem?_eq_getElem _
        have hlt' := (List.getElem?_eq_some_iff.1 (hfr n hm)).1
        have hn' : (setMem mem1 F.al new)[n]? = some none := hn
        rw [setMem_at F.al new mem1 i n _ hal (by omega) hi hni] at hn'
        cases hn'
      have hn' : (setMem mem1 F.al new)[n]? = some none := hn
      rw [setMem_not _ _ _ _ hna] at hn'
      have hs : s.mem[n]? = some none := by
        simp only [mem1] at hn'
        split at hn'
        · exact hn'
        · rename_i hw
          have hw : F.ws ≠ [] := by simpa using hw
          by_cases hm : n ∈ F.rd
          · obtain ⟨i, hi⟩ := List.getElem?_of_mem hm
            have hlt := (List.getElem?_eq_some_iff.1 hi).1
            have hul := updOK_length _ _ (hu.resolve_left hw)
            obtain ⟨o, ho⟩ := hrdlt n hm
            have hlt' := (List.getElem?_eq_some_iff.1 ho).1
            rw [setMem_at F.rd upd s.mem i n (upd[i]'(by omega)) (hrd.resolve_left hw) hlt' hi (List.getElem?_eq_getElem _)] at hn'
            cases hn'
          · rwa [setMem_not _ _ _ _ hm] at hn'
      rw [he.only n hna]; exact h.fresh n hs
    mem := fun n o hn => by
      rcases now n o hn with ⟨hna, hm1⟩ | ⟨i, hi, hni⟩
      · obtain ⟨b, c, o0, hE, hE', hs, hob, g1, g2, g5, g6⟩ := oldBlock n o hm1
        refine ⟨b, c, hE', hob, fun ho ht => ?_⟩
        obtain ⟨b', c', hE2, _, hM⟩ := h.mem n o0 hs
        rw [hE] at hE2; cases hE2
        exact hM (g6 ho) (touches_fit g5 ht)
      · obtain ⟨b, c, hE', hob, hor⟩ := he.made i n o hi hni
        refine ⟨b, c, hE', hob, fun ho ht => ?_⟩
        rcases hor ht with g | ⟨hw, j, k, c', hj, hd, hEk⟩ | ⟨hm0, _⟩
        rotate_left 2
        · rw [hm0] at ho; cases ho
        · exact .inl (Nat.le_trans h.grow g)
        · have hwsne : F.ws ≠ [] := by intro e; rw [Foot.wr, e] at hw; cases hw
          have hlt2 := (List.getElem?_eq_some_iff.1 hj).1
          have hck : cs[j]? = some (cs[j]'(by omega)) := List.getElem?_eq_getElem _
          obtain ⟨_, _, g3, _⟩ := updOK_get _ _ j _ _ (hu.resolve_left hwsne) hd hck
          have hown : (cs[j]'(by omega)).owned = true := g3.resolve_left (by decide)
          obtain ⟨b2, c2, hE2, _, hM⟩ := h.mem k _ (hcg j k _ hj hck)
          rw [hEk] at hE2; cases hE2
          exact hM (mine_owned hown) (touches_owned hown)
    apart := fun n m o o' b c b' c' hn hm ho ho' hE1 hE2 hnm => by
      rcases now n o hn with ⟨hna, hn1⟩ | ⟨i, hi, hni⟩
      · rcases now m o' hm with ⟨hma, hm1⟩ | ⟨j, hj, hmj⟩
        · obtain ⟨x1, y1, o1, e1, e1', s1, _, g1, _⟩ := oldBlock n o hn1
          obtain ⟨x2, y2, o2, e2, e2', s2, _, _, g2, g5, _⟩ := oldBlock m o' hm1
          rw [hE1] at e1'; cases e1'
          rw [hE2] at e2'; cases e2'
          exact fun ht => h.apart n m o1 o2 b c b' c' s1 s2 (g1 ho) (g2 ho') e1 e2 hnm (touches_fit g5 ht)
        · have hlive : o.live = true := by cases o <;> first | rfl | cases ho
          exact fun e => newOld j m o' n o b' c' b c hj hmj hna hn1 ho' hlive (.inr ho) hE2 hE1 (touches_eq e ▸ e) (touches_owned ho) (touches_eq e).symm
      · rcases now m o' hm with ⟨hma, hm1⟩ | ⟨j, hj, hmj⟩
        · have hlive : o.live = true := by cases o <;> first | rfl | cases ho
          exact fun e => newOld i n o m o' b c b' c' hi hni hma hm1 hlive ho' (.inl ho) hE1 hE2 (touches_owned ho) (touches_eq e ▸ e) (touches_eq e)
        · exact he.newApart i j n m o o' b c b' c' hi hj hni hmj ho ho' hE1 hE2 (by rintro rfl; rw [hi] at hj; cases hj; exact hnm rfl)
    frame := fun k hk hM => by
      rw [he.keep k (Nat.lt_of_lt_of_le hk h.grow) fun m hm c hE => ?_]
      · exact h.frame k hk hM
      · obtain ⟨om, hom⟩ := hrdlt m (hsub m hm)
        obtain ⟨b, c2, hE2, _, hor⟩ := h.mem m om hom
        rw [hE] at hE2; cases hE2
        rcases hor (mine_owned (hws m hm om hom)) (touches_owned (hws m hm om hom)) with g | g
        · omega
        · exact hM g
    grow := Nat.le_trans h.grow he.grow
    os := he.os.trans h.os, tape := he.tape.trans h.tape, output := he.output.trans h.output, glob := h.glob
    nest := fun m b c k hE' hu => by
      by_cases hm : m ∈ F.al
      · obtain ⟨m0, b0, c0, e1, e2⟩ := he.bare m b c k hm hE' hu
        exact h.nest m0 b0 c0 k e1 e2
      · exact h.nest m b c k ((he.only m hm).symm.trans hE') hu }
theorem guardA_spec {w0 w : World} {M : Nat → Prop} {E : Env} {s : AState} {a : Act} {ops : Array Oper} {o : Oper} {b : Bool} (h : Rel w0 M E s a w) (hg : guardA ops o s = some b) : Region.wanted o (yielded ops a.tmps) = b := by
  unfold guardA at hg
  unfold Region.wanted
  split at hg
  · rename_i h0; rw [h0]; cases hg; rfl
  · rename_i j want h0
    rw [h0]
    simp only
    split at hg
    · rename_i d hd
      split at hg
      · rename_i b' hb
        cases hg
        obtain ⟨x, hx, hdx⟩ := h.slots d _ (by simpa using Option.join_eq_some_iff.1 hb)
        cases hdx
        simp only [yielded, hd, Option.bind_some, hx]
        cases b' <;> cases want <;> rfl
      · rename_i hb
        cases hg
        obtain ⟨x, hx, hdx⟩ := h.slots d _ (by simpa using Option.join_eq_some_iff.1 hb)
        cases hdx
        simp only [yielded, hd, Option.bind_some, hx]
        rfl
      · cases hg
    · rename_i hd
      cases hg
      simp only [yielded, hd, Option.bind_none]
      rfl
theorem act_defer {h : Hint} {c : Call} {vals : List AV} {cs : List AObj} {r : Res} (e : act P h (.defer c) vals cs = some r) : False := by
  unfold act at e
  split at e <;> first | contradiction | (cases e; done)
theorem astep_sound {ro : Option Nat} {w0 w : World} {M : Nat → Prop} {E : Env} {s : AState} {a : Act} {ops : Array Oper} {h : Hint} {o : Oper} {st : Step} {next : Act → World → Prop} {Q : Exit → Act → World → Prop} (hs : astep P ops h o s = some st) (hob : AllP st.obl) (hR : Rel w0 M E s a w)
    (hn : ∀ E' a' w', Env.le E E' → Rel w0 M E' st.st a' w' → next a' w') :
    if Region.wanted o (yielded ops a.tmps) then o.wpIn (WR ro) 0 P a w next Q else next (a.put o.dst undef) w := by
  unfold astep at hs
  split at hs
  · cases hs
  · rename_i hg
    cases hs
    rw [guardA_spec hR hg]
    exact hn E _ w (.refl _) (hR.put o.dst rfl)
  · rename_i hg
    rw [guardA_spec hR hg]
    simp only [if_true]
    split at hs
    · cases hs
    · rename_i vals hv
      split at hs
      · cases hs
      · rename_i F hf
        split at hs
        · cases hs
        · rename_i cs hc
          split at hs
          · rename_i hck
            simp only [Bool.and_eq_true, Bool.or_eq_true] at hck
            obtain ⟨⟨⟨⟨k1, k2⟩, k3⟩, k4⟩, k5⟩ := hck
            split at hs
            · cases hs
            · rename_i r hr
              split at hs
              · rename_i hfin
                simp only [Bool.and_eq_true, Bool.or_eq_true, beq_iff_eq] at hfin
                cases hs
                obtain ⟨hcl, hcg⟩ := objs_get F.rd cs hc
                have hal := nodupB_spec k1
                have hrd : F.ws = [] ∨ F.rd.Nodup := k2.imp (by simp) nodupB_spec
                have hfr : ∀ n ∈ F.al, s.mem[n]? = some none := fun n hn' => by
                  have := List.all_eq_true.1 k3 n hn'
                  unfold freshB at this
                  split at this
                  · assumption
                  · cases this
                have hsub : ∀ n ∈ F.ws, n ∈ F.rd := fun n hn' => by
                  have := List.all_eq_true.1 k4 n hn'
                  simpa using this
                have hws : ∀ n ∈ F.ws, ∀ o, s.mem[n]? = some (some o) → o.owned = true := fun n hn' o' ho' => by
                  have := List.all_eq_true.1 k5 n hn'
                  unfold ownedB at this
                  rw [ho'] at this
                  exact this
                have hpre : Pre E w F cs :=
                  { len := hcl
                    objs := fun i n o' h1 h2 => let ⟨b, c, e, ob, _⟩ := hR.mem n o' (hcg i n o' h1 h2); ⟨b, c, e, ob⟩
                    fresh := fun n hn' => hR.fresh n (hfr n hn')
                    nodup := hal
                    rdNodup := fun hw => hrd.resolve_left (by intro e; rw [Foot.wr, e] at hw; cases hw)
                    apart := fun i j n m o1 o2 b c b' c' h1 h2 h3 h4 h5 h6 h7 h8 h9 => hR.apart n m o1 o2 b c b' c' (hcg i n o1 h1 h3) (hcg j m o2 h2 h4) h5 h6 h7 h8 h9
                    nest := fun m b c k e1 e2 => by
                      obtain ⟨g1, g2⟩ := hR.nest m b c k e1 e2
                      refine ⟨Nat.lt_of_lt_of_le g1 hR.grow, fun i n o' c' h1 h3 h4 h5 => ?_⟩
                      obtain ⟨b5, c5, hE5, _, hM5⟩ := hR.mem n o' (hcg i n o' h1 h3)
                      rw [h5] at hE5; cases hE5
                      rcases hM5 (mine_owned h4) (touches_owned h4) with g | g
                      · omega
                      · exact g2 g
                    glob := fun g hg => by
                      obtain ⟨g1, g2, g3⟩ := hR.globNow g hg
                      exact ⟨g1, fun ⟨i, n, o', c, h1, h2, h3, h4⟩ => g2 ⟨n, o', c, hcg i n o' h1 h2, h3, h4⟩, g3⟩ }
                have hden := evs_den hR _ _ hv
                have fin : ∀ E' x w', den E' r.val = some x → Eff E E' w w' F r.upd r.new → Rel w0 M E' { s.put o.dst r.val with mem := setMem (if F.ws.isEmpty then s.mem else setMem s.mem F.rd r.upd) F.al r.new } (a.put o.dst x) w' := fun E' x w' hx he => by
                  have := (hR.step he hc hal hrd hfr hsub hfin.1 (hfin.2.imp (by simp) id) hws).put o.dst hx
                  have e : ({ s with mem := setMem (if F.ws.isEmpty then s.mem else setMem s.mem F.rd r.upd) F.al r.new } : AState).put o.dst r.val = { s.put o.dst r.val with mem := setMem (if F.ws.isEmpty then s.mem else setMem s.mem F.rd r.upd) F.al r.new } := by
                    cases o.dst <;> rfl
                  rwa [e] at this
                unfold Oper.wpIn
                refine ⟨fun _ _ => True.intro, ?_⟩
                split at hr
                · rename_i r' hca
                  cases hr
                  obtain ⟨f, args, hrun, hrun', ⟨c0, hc0⟩, hcalls⟩ := call_sound hden hf hpre hca hob
                  rw [Oper.semAt_eq _ _ _ (fun c e => by rw [hc0] at e; cases e)]
                  by_cases hfy : f = yF
                  · unfold Does at hcalls
                    rw [if_pos hfy] at hcalls
                    obtain ⟨l, r1, ys, h1, h2, h3, h4⟩ := hcalls
                    rw [hrun' hfy l r1 ys h1 h2 h3, Oper.uponIn_round]
                    refine ⟨fun e => by simp [WR, Fence.wide] at e, (h4 ro).mono ?_⟩
                    rintro e w' ⟨E', x, rfl, hx, he⟩
                    exact hn E' _ w' he.le (fin E' x w' hx he)
                  · rw [hrun hfy]
                    rcases hcalls.to hfy with ⟨g, as, h1, h2⟩ | ⟨v, w', h1, E', x, hv', hx, he⟩
                    · rw [h1, Oper.uponIn_enter]
                      refine ⟨fun e => by simp [WR, Fence.wide] at e, calls_WR.2 (h2.mono ?_)⟩
                      rintro e w' ⟨E', x, rfl, hx, he⟩
                      exact hn E' _ w' he.le (fin E' x w' hx he)
                    · cases hv'
                      rw [h1, Oper.uponIn_value]
                      exact hn E' _ w' he.le (fin E' _ w' hx he)
                · rw [Oper.semAt_eq _ _ _ (fun c e => by rw [e] at hr; exact act_defer hr)]
                  obtain ⟨x, w', E', hrun, hx, he⟩ := act_sound hden hf hpre hr hob
                  rcases hrun with hrun | ⟨hrun, rfl⟩
                  · rw [hrun, Oper.uponIn_value]
                    exact hn E' _ w' he.le (fin E' x w' hx he)
                  · rw [hrun, Oper.uponIn_skip]
                    exact hn E' _ w' he.le (fin E' undef w' hx he)
              · cases hs
          · cases hs
end Go.Proofs.YtphhepnldndbhaaGreatDoor.Sx
