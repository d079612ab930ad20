import Derived.Test.YtphhepnldndbhaaGreatDoorGr04
import Derived.Test.YtphhepnldndbhaaGreatDoorGr03
import Derived.Laws.Externs
import Derived.Lib.Bytealg
import Derived.ChangeKeysEq
import Derived.Lib.MakeNoZero
set_option linter.unusedSimpArgs false
set_option linter.unusedVariables false
namespace Go.Proofs.YtphhepnldndbhaaGreatDoor.Sx
open Go
variable {P : Program}
def roundStart (n : Nat) (ix : List Nat) (cs : List AV) (ps : List Tmp) (vals : List AV) (pre : List AObj) (k : Nat) : AState :=
  ⟨setParams (roundSlots n ix cs) ps vals, pre.map (fun o => some o.lent) ++ List.replicate k none⟩
theorem zip_foldl_toArray (ps : List Tmp) (ys : List Value) (T : Array Value) : ((ps.toArray.zip ys.toArray).foldl (fun t (p : Tmp × Value) => t.setIfInBounds p.1 p.2) T) = ((ps.zip ys).foldl (fun t (p : Tmp × Value) => t.setIfInBounds p.1 p.2) T) := by
  rw [← Array.foldl_toList]
  simp
theorem turn_ready {w0 w : World} {M : Nat → Prop} {E : Env} {s : AState} {a : Act} {nm l n : Nat} {c : Cap} {ix : List Nat} {cs : List AV} {ps : List Tmp} {asg body : Code} (b b' : LSt) (h : Rel w0 M E s a w) (hn : s.mem[nm]? = some (some (.loopR b n ix cs ps asg body))) (hE : E nm = some (l, c)) :
    ∃ r : Loop, w.heap[l]? = some (.loop r) ∧ r.state = b.st ∧ r.pending = b.pend ∧ Rel w0 M E { s with mem := s.mem.set nm (some (.loopR b' n ix cs ps asg body)) } a (w.putObj l (.loop { r with state := b'.st, pending := b'.pend })) := by
  obtain ⟨b1, c', hb, hob, _⟩ := h.mem nm _ hn
  rw [hE] at hb; cases hb
  obtain ⟨ys, r, hys, hheap, hst, hpend, h1, h2, h3, h4, h5⟩ := hob
  refine ⟨r, hheap, hst, hpend, ?_⟩
  exact h.turn (o1 := .loopR b' n ix cs ps asg body) hn rfl hE _ ⟨ys, { r with state := b'.st, pending := b'.pend }, hys, World.putObj_heap_same (Array.getElem?_eq_some_iff.1 hheap).1, rfl, rfl, h1, h2, h3, h4, h5⟩ rfl
theorem round_rel {w : World} {E : Env} {vals : List AV} {ys : List Value} {pre : List AObj} {n NF : Nat} {ix : List Nat} {cs : List AV} {ps : List Tmp} {r : Loop} {xs : List Value} (hp : PreR E w pre) (hv : denL E vals = some ys) (hlen : ps.length = vals.length) (hps : r.params = ps.toArray) (hn : r.tmps.size = n)
    (hcs : denL E cs = some xs) (hT : ∀ (i t : Nat) (x : Value), ix[i]? = some t → xs[i]? = some x → r.tmps[t]? = some x) :
    Rel w (fun b => ∃ (n : Nat) (o : AObj) (c : Cap), pre[n]? = some o ∧ o.owned = true ∧ E n = some (b, c)) E (roundStart n ix cs ps vals pre NF) { tmps := roundTmps r ys, defers := [] } w := by
  have h0 := start_rel (args := []) (xs := []) (ntmps := 0) (k := NF) rfl hp
  have hl : (roundSlots n ix cs).length = n := by simp [roundSlots, foldl_set_length]
  have hg := roundSlots_get (E := E) (T := r.tmps) (n := n) ix cs xs (List.replicate n none) hcs hT (fun t v h => by
    rw [List.getElem?_replicate] at h; split at h <;> simp at h)
  obtain ⟨g1, g2⟩ := setParams_get ps vals ys (roundSlots n ix cs) r.tmps hv hlen (by rw [hl, hn]) hg
  have hT' : roundTmps r ys = (ps.zip ys).foldl (fun t (p : Tmp × Value) => t.setIfInBounds p.1 p.2) r.tmps := by
    rw [roundTmps, hps]; exact zip_foldl_toArray ps ys r.tmps
  exact { h0 with
    size := by rw [hT', g2]; simp [roundStart, setParams_length]
    slots := fun t v h => by rw [hT']; exact g1 t v h
    defers := DefOK.nil _ _ }
def LSt.of : Ex → LSt
  | .normal => .ready
  | .exit i => .done (.exit i)
  | .ret => .done .ret
theorem meets_round {e2 : Ex} {vals : List AV} {pre post : List AObj} {nm n n1 n2 NF : Nat} {ix ix1 ix2 : List Nat} {cs cs1 cs2 : List AV} {ps ps1 ps2 : List Tmp} {asg body asg1 body1 asg2 body2 : Code} {s1 s2 t : AState} {rn : List Nat} {hs : List Hint} {ob ob2 : List Prop}
    (hpre : pre[nm]? = some (.loopR .ready n ix cs ps asg body)) (hlen : ps.length = vals.length) (hna : noRange asg = true) (hnb : noRange body = true)
    (t1 : Tri P asg (roundStart n ix cs ps vals pre NF) .normal s1 pre.length) (hs1 : s1.mem[nm]? = some (some (.loopR .ready n1 ix1 cs1 ps1 asg1 body1)))
    (t2 : Tri P body { s1 with mem := s1.mem.set nm (some (.loopR .busy n1 ix1 cs1 ps1 asg1 body1)) } e2 s2 pre.length) (hs2 : s2.mem[nm]? = some (some (.loopR .busy n2 ix2 cs2 ps2 asg2 body2)))
    (hren : renA rn pre.length { s2 with mem := s2.mem.set nm (some (.loopR (.of e2) n2 ix2 cs2 ps2 asg2 body2)) } t = some ob) (hob : AllP ob) (hfin : finA P [] hs t pre.length (.tuple []) post = some ob2) (hob2 : AllP ob2)
    (hpq : ((pre.zip post).all fun p => !p.1.owned || p.2.owned || !p.2.live) = true) : Meets P yF (.ptr nm 0 :: vals) pre (.bool (LSt.of e2).pend.isNone) post := by
  intro w E xs hx hp
  obtain ⟨x, ys, hx1, hys, rfl⟩ := qxz.1 hx
  obtain ⟨b, c, hE, rfl⟩ := ptr_den hx1
  obtain ⟨b', c', hE', hob'⟩ := hp.objs nm _ hpre
  rw [hE] at hE'; cases hE'
  obtain ⟨zs, r, hzs, hheap, hst, hpend, h1, h2, h3, h4, h5⟩ := hob'
  have hnm : nm < pre.length := (List.getElem?_eq_some_iff.1 hpre).1
  unfold Does
  rw [if_pos rfl]
  refine ⟨b, r, ys, rfl, hheap, ?_, fun ro => ?_⟩
  · rw [h1, denL_length hys]; simpa using hlen.symm
  · refine roundIn_of_wpIn (F := WR ro) True.intro ?_
    have h0 := round_rel (NF := NF) hp hys hlen h1 h4 hzs h5
    rw [h2, h3]
    refine wpIn_mono (t1 (some b) w _ E _ w (.inr hna) h0) ?_
    rintro e a1 w1 ⟨rfl, E1, hle1, r1⟩
    have hE1 := hle1 nm _ hnm hE
    obtain ⟨q1, hq1, hqs1, hqp1, r2⟩ := turn_ready .ready .busy r1 hs1 hE1
    refine ⟨_, run_beginRound hq1 hqs1, ?_⟩
    have e1 : ({ q1 with state := LSt.busy.st, pending := LSt.busy.pend } : Loop) = { q1 with state := .busy } := by
      cases q1; simp only [LSt.pend] at hqp1; subst hqp1; rfl
    rw [e1] at r2
    refine wpIn_mono (t2 (some b) w _ E1 a1 _ (.inr hnb) r2) ?_
    rintro e a2 w3 ⟨rfl, E2, hle2, r3⟩
    have hE2 := hle2 nm _ hnm hE1
    obtain ⟨q2, hq2, hqs2, hqp2, r4⟩ := turn_ready .busy (.of e2) r3 hs2 hE2
    have fin : ∀ j : Option Code, j = (LSt.of e2).pend → (Instr.endRound b j).run P w3 = .ok (.bool j.isNone) (w3.putObj b (.loop { q2 with state := (LSt.of e2).st, pending := (LSt.of e2).pend })) := by
      rintro j rfl
      rw [run_endRound _ hq2]
      cases e2 <;> rfl
    obtain ⟨r5, hk⟩ := r4.ren hren hob
    obtain ⟨ob1, vs, hr, k1, k2, E'', hd2, hpost⟩ := post_core hfin hob2 hpq hp (fun n p hn he => by simp [hk n hn, hle2 n p hn (hle1 n p hn he)]) r5
    cases e2 with
    | normal => exact ⟨_, _, fin none rfl, E'', .bool true, rfl, rfl, hpost⟩
    | exit i => exact ⟨_, _, fin (some (.exit i)) rfl, E'', .bool false, rfl, rfl, hpost⟩
    | ret => exact ⟨_, _, fin (some .ret) rfl, E'', .bool false, rfl, rfl, hpost⟩
end Go.Proofs.YtphhepnldndbhaaGreatDoor.Sx
namespace Go.Proofs.YtphhepnldndbhaaGreatDoor.Sx
open Go
variable {P : Program} {R : Type}
abbrev Hd (R : Type) := FuncId → List AV → List PObj → (AV → List PObj → Option R) → Option R
def HOK (P : Program) (H : Hd R) : Prop := ∀ f args pre k r, H f args pre k = some r → ∃ res post, Meets P f args (pre.map PObj.toA) res (post.map PObj.toA) ∧ k res post = some r
def setP (mem : List (Option PObj)) : List Nat → List PObj → List (Option PObj)
  | n :: ns, o :: os => setP (mem.set n (some o)) ns os
  | _, _ => mem
theorem memA_setP : ∀ (ns : List Nat) (os : List PObj) (mem : List (Option PObj)), memA (setP mem ns os) = setMem (memA mem) ns (os.map PObj.toA)
  | [], os, mem => by simp [setP, setMem]
  | n :: ns, [], mem => by simp [setP, setMem]
  | n :: ns, o :: os, mem => by
    simp only [setP, List.map_cons, setMem]
    rw [memA_setP ns os]
    congr 1
    simp [memA, List.map_set]
def litTmps (ops : Array Oper) (o : Oper) : List Nat :=
  (match o.guard with
    | some (j, _) => match (ops[j]?).bind (·.dst) with | some d => [d] | none => []
    | none => []) ++
  (match o.op with
    | .pick (.tmp t) _ _ => [t]
    | _ => [])
def qzw.setSlot (s : qzw) (d : Nat) (v : AV) : qzw := ⟨s.slots.set d (some v), s.mem⟩
def withLits : List Nat → qzw → (qzw → Option R) → Option R
  | [], s, k => k s
  | d :: ds, s, k => match (s.slots[d]?).join with
    | some (.bool b) => qyw b (withLits ds (s.setSlot d (.bool true)) k) (withLits ds (s.setSlot d (.bool false)) k)
    | _ => withLits ds s k
theorem setSlot_same {s : qzw} {d : Nat} {v : AV} (h : (s.slots[d]?).join = some v) : s.setSlot d v = s := by
  simp only [Option.join_eq_some_iff] at h
  cases s with
  | mk sl m =>
    simp only [qzw.setSlot, qzw.mk.injEq, and_true]
    obtain ⟨h1, h2⟩ := List.getElem?_eq_some_iff.1 h
    rw [← h2, List.set_getElem_self]
theorem withLits_sound {k : qzw → Option R} {r : R} : ∀ (ds : List Nat) (s : qzw), withLits ds s k = some r → k s = some r
  | [], s, h => h
  | d :: ds, s, h => by
    simp only [withLits] at h
    split at h
    · rename_i b hb
      cases b with
      | true => simp only [qyw] at h; rw [setSlot_same hb] at h; exact withLits_sound ds s h
      | false => simp only [qyw] at h; rw [setSlot_same hb] at h; exact withLits_sound ds s h
    · exact withLits_sound ds s h
def altE (P : Program) (ops : Array Oper) (o : Oper) (s : qzw) (k : Foot → qzw → Option R) : Alt → Option R
  | .ok chk h upd new => qyw chk (match astep P ops h o s.toA with
      | some st => k st.foot ⟨st.st.slots, setP (if st.foot.ws.isEmpty then s.mem else setP s.mem st.foot.rd upd) st.foot.al new⟩
      | none => none) none
  | .br b x y => qyw b (altE P ops o s k x) (altE P ops o s k y)
def Did (P : Program) (ops : Array Oper) (o : Oper) (s : qzw) (k : Foot → qzw → Option R) (r : R) : Prop :=
  ∃ h st s', astep P ops h o s.toA = some st ∧ AllP st.obl ∧ s'.toA = st.st ∧ k st.foot s' = some r
theorem callA_none {h : Hint} {o : Op} {vals : List AV} {cs : List AObj} (hc : h.call = none) : callA h P o vals cs = none := by
  unfold callA; split
  · rename_i e; rw [hc] at e; cases e
  · rfl
theorem altE_sound {ops : Array Oper} {o : Oper} {s : qzw} {k : Foot → qzw → Option R} {r : R} {vals : List AV} (hg : guardA ops o s.toA = some true) (hv : evs s.toA o.op.operands.toList = some vals) :
    ∀ (a : Alt), AltOK P o.op vals s.mem a → altE P ops o s k a = some r → Did P ops o s k r
  | .br b x y, ha, h => by
    cases b with
    | true => exact altE_sound hg hv x (ha.1 rfl) h
    | false => exact altE_sound hg hv y (ha.2 rfl) h
  | .ok chk h upd new, ha, hh => by
    cases chk with
    | false => simp [altE, qyw] at hh
    | true =>
      simp only [altE, qyw] at hh
      split at hh
      · rename_i st hst
        obtain ⟨hc, ha⟩ := ha rfl
        have hst0 := hst
        unfold astep at hst
        rw [hg] at hst
        simp only [hv] at hst
        split at hst
        · cases hst
        · rename_i F hF
          split at hst
          · cases hst
          · rename_i cs hcs
            split at hst
            · rw [callA_none hc] at hst
              simp only at hst
              split at hst
              · cases hst
              · rename_i q hq
                split at hst
                · have hq' : act P h o.op vals cs = some q := hq
                  obtain ⟨a1, a2, a3⟩ := ha F cs q hF hcs hq'
                  cases hst
                  refine ⟨h, _, _, hst0, a1, ?_, hh⟩
                  simp only [qzw.toA]
                  congr 1
                  rw [memA_setP, a3]
                  congr 1
                  split
                  · rfl
                  · rename_i hw
                    rw [memA_setP, a2 (by intro e; rw [e] at hw; exact hw rfl)]
                · cases hst
            · cases hst
      · cases hh
def freeNs : Nat → List (Option PObj) → List Nat
  | _, [] => []
  | i, none :: m => i :: freeNs (i + 1) m
  | i, some _ :: m => freeNs (i + 1) m
def updP (ren : List Nat) : List PObj → List PObj → List PObj → List PObj
  | c :: cs, p :: pre, q :: post => (if p.toA.owned then q.ren ren else c) :: updP ren cs pre post
  | _, _, _ => []
theorem updP_toA {ren : List Nat} : ∀ (cs pre post : List PObj), (updP ren cs pre post).map PObj.toA = updOf ren (cs.map PObj.toA) (pre.map PObj.toA) (post.map PObj.toA)
  | [], _, _ => by simp [updP, updOf]
  | _ :: _, [], _ => by simp [updP, updOf]
  | _ :: _, _ :: _, [] => by simp [updP, updOf]
  | c :: cs, p :: pre, q :: post => by
    simp only [updP, List.map_cons, updOf, updP_toA cs pre post]
    congr 1
    split
    · exact PObj.ren_toA _ _
    · rfl
def objsP (mem : List (Option PObj)) (ns : List Nat) : List PObj := ns.filterMap fun n => lookP mem n
theorem fits_take {mem : List (Option PObj)} {r x : List Nat} : ∀ (ns : List Nat) (os : List PObj), takeObjs mem r ns = some os → AllP (fitsOf (r ++ x) ((objsP mem ns).map PObj.toA) (os.map PObj.toA))
  | [], os, h => by simp [takeObjs] at h; subst h; trivial
  | m :: ns, os, h => by
    simp only [takeObjs] at h
    split at h
    · rename_i o ho
      split at h
      · rename_i hs
        simp only [Option.map_eq_some_iff] at h
        obtain ⟨os', h', rfl⟩ := h
        simp only [objsP, List.filterMap_cons, ho, List.map_cons, fitsOf]
        exact ⟨Fits.of_eq (PObj.ren_unren hs).symm, fits_take ns os' h'⟩
      · cases h
    · cases h
def callE (H : Hd R) (P : Program) (ops : Array Oper) (o : Oper) (s : qzw) (f : FuncId) (first args caps : List AV) (k : Foot → qzw → Option R) : Option R :=
  let full := first ++ args ++ caps
  let r0 := reach s.mem 1000 (namesL full) []
  if subN r0 (namesL full) then
    match takeObjs s.mem r0 r0 with
    | some pre =>
      H f (unrenL r0 full) pre fun res post =>
        let ren := r0 ++ (freeNs 0 s.mem).take (post.length - pre.length)
        match astep P ops { call := some ⟨ren, unrenL r0 full, pre.map PObj.toA, res, post.map PObj.toA⟩ } o s.toA with
        | some st => k st.foot ⟨st.st.slots, setP (if st.foot.ws.isEmpty then s.mem else setP s.mem st.foot.rd (updP ren (objsP s.mem r0) pre post)) st.foot.al ((post.drop pre.length).map (PObj.ren ren))⟩
        | none => none
    | none => none
  else none
theorem act_call_none {h : Hint} {c : Call} {vals : List AV} {cs : List AObj} {v : Operand} (hc : c.callee = .value v) : act P h (.call c) vals cs = none := by
  cases vals <;> simp [act, hc]
theorem callE_sound {H : Hd R} (hH : HOK P H) {ops : Array Oper} {o : Oper} {c : Call} {v : Operand} {s : qzw} {f : FuncId} {first args caps : List AV} {k : Foot → qzw → Option R} {r : R} (ho : o.op = .call c) (hc : c.callee = .value v) (hg : guardA ops o s.toA = some true) (hv : evs s.toA o.op.operands.toList = some (.func f first caps :: args)) (h : callE H P ops o s f first args caps k = some r) : Did P ops o s k r := by
  unfold callE at h
  simp only at h
  generalize hr0 : reach s.mem 1000 (namesL (first ++ args ++ caps)) [] = r0 at h
  split at h
  · rename_i hsub
    split at h
    · rename_i pre hpre
      obtain ⟨res, post, hm, hk⟩ := hH _ _ _ _ _ h
      generalize hren : r0 ++ (freeNs 0 s.mem).take (post.length - pre.length) = ren at hk
      split at hk
      · rename_i st hst
        have hst0 := hst
        unfold astep at hst
        rw [hg] at hst
        simp only [hv] at hst
        split at hst
        · cases hst
        · rename_i F hF
          split at hst
          · cases hst
          · rename_i cs hcs
            split at hst
            · simp only [ho, act_call_none hc] at hst
              split at hst
              · cases hst
              · rename_i q hq
                have hq2 : callA { call := some ⟨ren, unrenL r0 (first ++ args ++ caps), pre.map PObj.toA, res, post.map PObj.toA⟩ } P (.call c) (.func f first caps :: args) cs = some q := by
                  split at hq
                  · rename_i q' hq'; cases hq; exact hq'
                  · cases hq
                split at hst
                · simp only [callA, hc] at hq2
                  split at hq2
                  · rename_i hcond
                    simp only [Bool.and_eq_true, beq_iff_eq, decide_eq_true_eq] at hcond
                    obtain ⟨⟨⟨⟨c1, c2⟩, c3⟩, c4⟩, c5⟩ := hcond
                    have hlen := (takeObjs_spec r0 pre hpre).1
                    have hrd : F.rd = r0 := by
                      rw [ho] at hF
                      simp only [foot, hc, Option.some.injEq] at hF
                      rw [← hF, ← hren]
                      simp [hlen]
                    rw [hrd] at hcs
                    have hcs' : cs = (objsP s.mem r0).map PObj.toA := objs_names _ _ hcs
                    cases hst
                    cases hq2
                    refine ⟨_, _, _, hst0, ?_, ?_, hk⟩
                    · refine ⟨?_, hm, ?_⟩
                      · rw [← hren, renL_unren _ hsub]
                      · rw [hcs', ← hren]; exact fits_take r0 pre hpre
                    · simp only [qzw.toA]
                      congr 1
                      rw [memA_setP]
                      congr 1
                      · split
                        · rfl
                        · rw [memA_setP, updP_toA, hcs']
                      · simp only [List.map_map, List.map_drop, List.length_map]
                        congr 1
                        apply List.map_congr_left
                        intro x _
                        exact PObj.ren_toA _ _
                  · cases hq2
                · cases hst
            · cases hst
      · cases hk
    · cases h
  · cases h
theorem callFunc_enter {f : FuncId} {fn : Func} (hf : P.funcs[f]? = some fn) (hb : fn.body.isSome = true) (hn : (fn.name == "runtime.NumGoroutine") = false) : ∀ args w, (callFunc f args).run P w = .ok (.enter f args) w := by
  intro args w
  have hb' : fn.body.isNone = false := by cases h : fn.body with | none => rw [h] at hb; cases hb | some b => rfl
  simp only [callFunc, Sem.run_bind, run_program, Result.andThen_ok, hf, hn, hb', Bool.false_eq_true, if_false, Sem.run_pure]
def usesO (n : Nat) : Operand → Bool
  | .tmp t => Nat.beq t n
  | _ => false
def usesC (n : Nat) : Code → Bool
  | .region _ ops _ => ops.toList.any fun o => o.op.operands.toList.any (usesO n)
  | .seq a b => usesC n a || usesC n b
  | .cond c a b => usesO n c || usesC n a || usesC n b
  | .block _ b => usesC n b
  | .loop b => usesC n b
  | .scope b => usesC n b
  | _ => false
def knownP (s : qzw) (asg body : Code) : List Nat × List AV := known (fun n => usesC n asg || usesC n body) 0 s.slots
def rangeE (H : Hd R) (P : Program) (s : qzw) (f : Operand) (ps : Array Tmp) (asg body : Code) (k : Ex → qzw → Option R) : Option R :=
  match s.toA.ev f with
  | some (.func g [] caps) =>
    match P.funcs[g]?, s.mem[frn s.mem]? with
    | some fn, some none =>
      if fn.body.isSome && !Nat.beq g yF && !(fn.name == "runtime.NumGoroutine") then
        callE H P #[] (rangeOp f s.slots.length) ⟨s.slots ++ [some (.func yF [.ptr (frn s.mem) 0] [])], s.mem.set (frn s.mem) (some (.raw (.loopR .ready s.slots.length (knownP s asg body).1 (knownP s asg body).2 ps.toList asg body)))⟩ g [] [.func yF [.ptr (frn s.mem) 0] []] caps fun _ s2 =>
          match lookP s2.mem (frn s.mem) with
          | some (.raw (.loopR u _ _ _ _ _ _)) => match u.ex with
            | some e => k e ⟨s.slots, s2.mem.set (frn s.mem) (some (.raw .dead))⟩
            | none => none
          | _ => none
      else none
    | _, _ => none
  | _ => none
theorem memA_set (m : List (Option PObj)) (n : Nat) (o : PObj) : memA (m.set n (some o)) = (memA m).set n (some o.toA) := by simp [memA, List.map_set]
theorem ev_more {s : AState} {x : Operand} {v : AV} {u : Option AV} {m : List (Option AObj)} (h : s.ev x = some v) : AState.ev ⟨s.slots ++ [u], m⟩ x = some v := by
  cases x with
  | tmp t =>
    simp only [AState.ev, Option.join_eq_some_iff] at h ⊢
    rw [List.getElem?_append_left (List.getElem?_eq_some_iff.1 h).1]; exact h
  | const c => exact h
  | global c => exact h
  | func c => exact h
theorem rangeE_sound {H : Hd R} (hH : HOK P H) {s : qzw} {f : Operand} {ps : Array Tmp} {asg body : Code} {k : Ex → qzw → Option R} {r : R} {K : Nat} (h : rangeE H P s f ps asg body k = some r) :
    ∃ (e : Ex) (s' : qzw), Tri P (.rangeFunc f ps asg body) s.toA e s'.toA K ∧ k e s' = some r := by
  unfold rangeE at h
  split at h
  · rename_i g caps hev
    split at h
    · rename_i fn hf hnm
      split at h
      · rename_i hc
        simp only [Bool.and_eq_true, Bool.not_eq_true'] at hc
        obtain ⟨⟨hb, hg⟩, hn⟩ := hc
        have hg : g ≠ yF := fun e => by rw [e, Nat.beq_refl] at hg; cases hg
        have hslot : AState.ev (qzw.toA ⟨s.slots ++ [some (.func yF [.ptr (frn s.mem) 0] [])], s.mem.set (frn s.mem) (some (.raw (.loopR .ready s.slots.length (knownP s asg body).1 (knownP s asg body).2 ps.toList asg body)))⟩) (.tmp s.slots.length) = some (.func yF [.ptr (frn s.mem) 0] []) := by
          simp [AState.ev, qzw.toA]
        have hev' : AState.ev (qzw.toA ⟨s.slots ++ [some (.func yF [.ptr (frn s.mem) 0] [])], s.mem.set (frn s.mem) (some (.raw (.loopR .ready s.slots.length (knownP s asg body).1 (knownP s asg body).2 ps.toList asg body)))⟩) f = some (.func g [] caps) := ev_more hev
        obtain ⟨hh, st, s2, h1, h2, h3, h4⟩ := callE_sound hH (o := rangeOp f s.slots.length) (c := { callee := .value f, args := #[.tmp s.slots.length], argTypes := #[] }) (v := f) rfl rfl rfl (by
          simp only [rangeOp, Op.operands, Call.operands]
          show evs _ [f, .tmp s.slots.length] = _
          simp only [evs, hev', hslot]) h
        simp only at h4
        split at h4
        · rename_i u n' ix' cs' ps' asg' body' hl
          cases hu : u.ex with
          | none => rw [hu] at h4; cases h4
          | some e =>
          rw [hu] at h4
          refine ⟨e, _, ?_, h4⟩
          have hl' : s2.toA.mem[frn s.mem]? = some (some (.loopR u n' ix' cs' ps' asg' body')) := by
            simp only [lookP, Option.join_eq_some_iff] at hl
            simp only [qzw.toA]; rw [memA_get, hl]; rfl
          rw [h3] at hl'
          have hst : astep P #[] hh (rangeOp f s.toA.slots.length) ⟨s.toA.slots ++ [some (.func yF [.ptr (frn s.mem) 0] [])], s.toA.mem.set (frn s.mem) (some (.loopR .ready s.toA.slots.length (knownP s asg body).1 (knownP s asg body).2 ps.toList asg body))⟩ = some st := by
            have := h1
            simp only [qzw.toA, memA_set] at this ⊢
            exact this
          have := tri_range (K := K) hu hev hg (callFunc_enter hf hb hn) (by simp only [qzw.toA]; rw [memA_get, hnm]; rfl) rfl hst h2 hl'
          rw [← h3] at this
          simp only [qzw.toA, memA_set] at this ⊢
          exact this
        · cases h4
      · cases h
    · cases h
  · cases h
def opE (H : Hd R) (P : Program) (ops : Array Oper) (o : Oper) (s : qzw) (k : Foot → qzw → Option R) : Option R :=
  match guardA ops o s.toA with
  | none => none
  | some false => k .no ⟨(s.toA.put o.dst (.tuple [])).slots, s.mem⟩
  | some true =>
    match evs s.toA o.op.operands.toList with
    | none => none
    | some vals =>
      match o.op with
      | .call c => match c.callee, vals with
        | .value _, .func f first caps :: args => callE H P ops o s f first args caps k
        | .value _, _ => none
        | _, _ => match pact P (.call c) vals s.mem with
          | some a => altE P ops o s k a
          | none => none
      | op => match pact P op vals s.mem with
        | some a => altE P ops o s k a
        | none => none
theorem opE_sound {H : Hd R} (hH : HOK P H) {ops : Array Oper} {o : Oper} {s : qzw} {k : Foot → qzw → Option R} {r : R} (h : opE H P ops o s k = some r) : Did P ops o s k r := by
  unfold opE at h
  split at h
  · cases h
  · rename_i hg
    refine ⟨{}, ⟨[], .no, s.toA.put o.dst (.tuple [])⟩, _, by unfold astep; rw [hg], trivial, ?_, h⟩
    simp only [qzw.toA]
    cases o.dst <;> rfl
  · rename_i hg
    split at h
    · cases h
    · rename_i vals hv
      split at h
      · rename_i c ho
        split at h
        · rename_i v f first caps args hc
          exact callE_sound hH ho hc hg hv h
        · cases h
        · split at h
          · rename_i a ha
            exact altE_sound hg hv a (by rw [ho]; exact pact_sound ha) h
          · cases h
      · rename_i op ho _
        split at h
        · rename_i a ha
          exact altE_sound hg hv a (by exact pact_sound ha) h
        · cases h
def splitN (d : Nat) (kk : IntKind) (n : Int) (s : qzw) (k : qzw → Option R) : Nat → Option R
  | 0 => none
  | m + 1 => qyw (n == (m : Int)) (k (s.setSlot d (.int kk m))) (splitN d kk n s k m)
def idxOf (o : Oper) (s : qzw) : Option (Nat × IntKind × Int × Nat) :=
  match o.op with
  | .indexAddr _ x (.tmp d) => match s.toA.ev x, (s.slots[d]?).join with
    | some (.slice _ _ len _), some (.int kk n) => if Nat.ble len 3 then some (d, kk, n, len) else none
    | _, _ => none
  | _ => none
def withIdx (o : Oper) (s : qzw) (k : qzw → Option R) : Option R :=
  match idxOf o s with
  | some (d, kk, n, len) => splitN d kk n s k len
  | none => k s
theorem splitN_sound {d : Nat} {kk : IntKind} {n : Int} {s : qzw} {k : qzw → Option R} {r : R} (hs : (s.slots[d]?).join = some (.int kk n)) : ∀ m, splitN d kk n s k m = some r → k s = some r
  | 0, h => by cases h
  | m + 1, h => by
    unfold splitN at h
    cases hn : n == (m : Int) with
    | true =>
      rw [hn] at h
      have e : n = (m : Int) := beq_iff_eq.1 hn
      simp only [qyw] at h
      rw [← e, setSlot_same hs] at h; exact h
    | false => rw [hn] at h; exact splitN_sound hs m h
theorem withIdx_sound {o : Oper} {s : qzw} {k : qzw → Option R} {r : R} (h : withIdx o s k = some r) : k s = some r := by
  unfold withIdx at h
  split at h
  · rename_i d kk n len hi
    unfold idxOf at hi
    split at hi
    · split at hi
      · rename_i hs
        split at hi
        · cases hi; exact splitN_sound hs _ h
        · cases hi
      · cases hi
    · cases hi
  · exact h
def opsE (H : Hd R) (P : Program) (ops : Array Oper) : List Nat → qzw → List Foot → (List Foot → qzw → Option R) → Option R
  | [], s, fs, k => k fs.reverse s
  | i :: L, s, fs, k =>
    match ops[i]? with
    | none => none
    | some o => withLits (litTmps ops o) s fun s => withIdx o s fun s => opE H P ops o s fun F s' => opsE H P ops L s' (F :: fs) k
theorem runOps_congr {ops : Array Oper} {h h' : Nat → Hint} : ∀ (L : List Nat) (s : AState), (∀ j ∈ L, h j = h' j) → runOps P ops h L s = runOps P ops h' L s
  | [], s, _ => rfl
  | i :: L, s, hh => by
    simp only [runOps]
    rw [hh i (by simp)]
    cases ops[i]? with
    | none => rfl
    | some o =>
      simp only
      cases astep P ops (h' i) o s with
      | none => rfl
      | some st => simp only; rw [runOps_congr L st.st fun j hj => hh j (by simp [hj])]
theorem opsE_sound {H : Hd R} (hH : HOK P H) {ops : Array Oper} {k : List Foot → qzw → Option R} {r : R} : ∀ (L : List Nat) (s : qzw) (fs : List Foot), L.Nodup → opsE H P ops L s fs k = some r →
    ∃ (hint : Nat → Hint) (ob : List Prop) (fs' : List Foot) (s' : qzw), runOps P ops hint L s.toA = some (ob, fs', s'.toA) ∧ AllP ob ∧ k (fs.reverse ++ fs') s' = some r
  | [], s, fs, _, h => ⟨fun _ => {}, [], [], s, rfl, trivial, by simpa [opsE] using h⟩
  | i :: L, s, fs, hnd, h => by
    simp only [opsE] at h
    split at h
    · cases h
    · rename_i o ho
      have h := withIdx_sound (withLits_sound _ _ h)
      obtain ⟨hn, st, s1, h1, h2, h3, h4⟩ := opE_sound hH h
      obtain ⟨hnd1, hnd2⟩ := List.nodup_cons.1 hnd
      obtain ⟨hint, ob, fs', s', k1, k2, k3⟩ := opsE_sound hH L s1 _ hnd2 h4
      refine ⟨fun j => if j = i then hn else hint j, st.obl ++ ob, st.foot :: fs', s', ?_, qzu.2 ⟨h2, k2⟩, by simpa using k3⟩
      simp only [runOps, ho, if_true, h1]
      rw [← h3, runOps_congr (h' := hint) L _ (fun j hj => by rw [if_neg]; rintro rfl; exact hnd1 hj), k1]
def iter (body : qzw → (Ex → qzw → Option R) → Option R) (gc : qzw → Option qzw) : Nat → qzw → (Ex → qzw → Option R) → Option R
  | 0, _, _ => none
  | n + 1, s, k => body s fun ex s' => match ex with
    | .normal => match gc s' with
      | some t => forceS t fun t => iter body gc n t k
      | none => none
    | e => k e s'
def headReg : Code → Option Nat
  | .region id _ _ => some id
  | .seq a b => match headReg a with | some i => some i | none => headReg b
  | .cond _ a b => match headReg a with | some i => some i | none => headReg b
  | .block _ c => headReg c
  | .loop c => headReg c
  | .scope c => headReg c
  | _ => none
inductive LAns where
  | out (ex : Ex) (s : qzw)
  | fail
  | br (b : Bool) (x y : LAns)
def LAns.run (k : Ex → qzw → Option R) : LAns → Option R
  | .out ex s => forceS s fun s => k ex s
  | .fail => none
  | .br b x y => qyw b (x.run k) (y.run k)
def LAns.chk (b : Bool) (x : LAns) : LAns := .br b x .fail
def LAnsOK (P : Program) (x : Code) (K : Nat) (t : qzw) : LAns → Prop
  | .out ex s => Tri P (.loop x) t.toA ex s.toA K
  | .fail => True
  | .br b u v => (b = true → LAnsOK P x K t u) ∧ (b = false → LAnsOK P x K t v)
theorem LAns.sound {x : Code} {K : Nat} {t : qzw} {k : Ex → qzw → Option R} {r : R} : ∀ (a : LAns), LAnsOK P x K t a → a.run k = some r → ∃ ex s, Tri P (.loop x) t.toA ex s.toA K ∧ k ex s = some r
  | .out ex s, h, e => ⟨ex, s, h, by simpa only [LAns.run, forceS_eq] using e⟩
  | .fail, h, e => by cases e
  | .br b u v, h, e => by
    cases b with
    | true => exact LAns.sound u (h.1 rfl) e
    | false => exact LAns.sound v (h.2 rfl) e
structure Lv where
  keep : Nat → Option (List Nat) := fun _ => none
  ent : Nat → Option (Nat → qzw → LAns) := fun _ => none
def qyu : Code → List Code
  | .seq a b => qyu a ++ qyu b
  | .cond _ a b => qyu a ++ qyu b
  | .block _ c => qyu c
  | .loop c => c :: qyu c
  | .scope c => qyu c
  | _ => []
def entOf (lv : Lv) (c : Code) : Option (Nat → qzw → LAns) :=
  match headReg c with
  | some i => lv.ent i
  | none => none
def LoopsOK (P : Program) (lv : Lv) (K : Nat) (c : Code) : Prop := ∀ x ∈ qyu c, ∀ id e, headReg x = some id → lv.ent id = some e → ∀ t, LAnsOK P x K t (e K t)
def keepOf (lv : Lv) (c : Code) : Nat → Bool :=
  match headReg c with
  | some i => match lv.keep i with
    | some l => fun n => hasN l n
    | none => fun _ => true
  | none => fun _ => true
def slotNames (keep : Nat → Bool) : Nat → List (Option AV) → List Nat
  | _, [] => []
  | i, some v :: vs => if keep i then v.names ++ slotNames keep (i + 1) vs else slotNames keep (i + 1) vs
  | i, none :: vs => slotNames keep (i + 1) vs
def gcL (K NF : Nat) (keep : Nat → Bool) (s : qzw) : Option qzw :=
  compact K NF (reach s.mem 1000 (List.range K ++ slotNames keep 0 s.slots) []) keep s
def code (H : Hd R) (P : Program) (lv : Lv) (K NF m : Nat) : Code → qzw → (Ex → qzw → Option R) → Option R
  | .skip, s, k => k .normal s
  | .label _, s, k => k .normal s
  | .ret, s, k => k .ret s
  | .exit id, s, k => k (.exit id) s
  | .region _ ops draw, s, k => opsE H P ops (List.range ops.size) s [] fun fs s' => qyw (!draw || orderF P ops fs) (forceS s' fun s' => k .normal s') none
  | .seq x y, s, k => code H P lv K NF m x s fun ex s' => match ex with
    | .normal => code H P lv K NF m y s' k
    | e => k e s'
  | .cond c x y, s, k => match c with
    | .tmp t => match (s.slots[t]?).join with
      | some (.bool b) => qyw b (code H P lv K NF m x (s.setSlot t (.bool true)) k) (code H P lv K NF m y (s.setSlot t (.bool false)) k)
      | _ => none
    | .const (.bool b) => qyw b (code H P lv K NF m x s k) (code H P lv K NF m y s k)
    | _ => none
  | .block id x, s, k => code H P lv K NF m x s fun ex s' => match ex with
    | .exit j => k (if Nat.beq j id then .normal else .exit j) s'
    | e => k e s'
  | .loop x, s, k => match gcL K NF (keepOf lv x) s with
    | some t => forceS t fun t => match entOf lv x with
      | some e => (e K t).run k
      | none => iter (fun s k => code H P lv K NF m x s k) (gcL K NF (keepOf lv x)) m t k
    | none => none
  | .rangeFunc f ps asg body, s, k => rangeE H P s f ps asg body k
  | .scope c, s, k => code H P lv K NF m c s k
  | _, _, _ => none
theorem tri_region {ops : Array Oper} {id : Nat} {draw : Bool} {hint : Nat → Hint} {s s' : AState} {ob : List Prop} {fs : List Foot} {K : Nat} (hr : runOps P ops hint (List.range ops.size) s = some (ob, fs, s')) (hob : AllP ob) (hd : (!draw || orderF P ops fs) = true) : Tri P (.region id ops draw) s .normal s' K := by
  intro ro w0 M E a w hro hR
  have hlen := runOps_length _ _ _ _ _ hr
  have runs := runs_of_runOps (LG := fun i => fs.getD i .no) _ _ _ _ _ hr hob (fun j => by
    by_cases hj : j < ops.size
    · have hj' : j < fs.length := by simpa [hlen] using hj
      simp [hj, hj', List.getD]
    · have hj' : ¬ j < fs.length := by simpa [hlen] using hj
      rw [List.getElem?_eq_none (by omega), List.getElem?_eq_none (by simp; omega)]; rfl)
  cases draw with
  | false => exact region_text runs hR fun E' a' w' hle h' => ⟨rfl, E', hle.toK, h'⟩
  | true =>
    simp only [Bool.not_true, Bool.false_or] at hd
    obtain ⟨A, d1, d2, d3⟩ := orderF_sound hd
    exact region_draw d1 d2 d3 runs hR fun E' a' w' hle h' => ⟨rfl, E', hle.toK, h'⟩
theorem iter_sound {body : qzw → (Ex → qzw → Option R) → Option R} {x : Code} {K NF : Nat} {keep : Nat → Bool} (hb : ∀ s k r, body s k = some r → ∃ ex s', Tri P x s.toA ex s'.toA K ∧ k ex s' = some r) {k : Ex → qzw → Option R} {r : R} :
    ∀ (n : Nat) (s : qzw), iter body (gcL K NF keep) n s k = some r → ∃ ex s', k ex s' = some r ∧ ∀ (ro : Option Nat) (w0 : World) (M : Nat → Prop) (E0 E : Env) (a : Act) (w : World), (ro = none ∨ noRange x = true) → Env.leK K E0 E → Rel w0 M E s.toA a w → Code.roundsIn (WR ro) 0 P x (fun e a' w' => e = ex.to ∧ ∃ E', Env.leK K E0 E' ∧ Rel w0 M E' s'.toA a' w') n a w
  | 0, s, h => by simp [iter] at h
  | n + 1, s, h => by
    simp only [iter] at h
    obtain ⟨ex1, s1, ht, h⟩ := hb _ _ _ h
    split at h
    · split at h
      · rename_i t hgc
        rw [forceS_eq] at h
        obtain ⟨ex, s', hk, hr⟩ := iter_sound hb n t h
        refine ⟨ex, s', hk, fun ro w0 M E0 E a w hro hle hR => ?_⟩
        rw [roundsIn_succ]
        refine wpIn_mono (ht ro w0 M E a w hro hR) ?_
        rintro e a' w' ⟨rfl, E', hle', h'⟩
        obtain ⟨ob, hren, hob⟩ := compact_ren hgc
        obtain ⟨g1, g2⟩ := h'.ren hren hob
        exact hr ro w0 M E0 _ a' w' hro (fun m p hm hE => by simp [g2 m hm, hle' m p hm (hle m p hm hE)]) g1
      · cases h
    · rename_i hne
      refine ⟨ex1, s1, h, fun ro w0 M E0 E a w hro hle hR => ?_⟩
      rw [roundsIn_succ]
      refine wpIn_mono (ht ro w0 M E a w hro hR) ?_
      rintro e a' w' ⟨rfl, E', hle', h'⟩
      cases ex1 with
      | normal => exact absurd rfl hne
      | exit id => exact ⟨rfl, E', hle.trans hle', h'⟩
      | ret => exact ⟨rfl, E', hle.trans hle', h'⟩
theorem code_sound {H : Hd R} (hH : HOK P H) {lv : Lv} {K NF m : Nat} : ∀ (c : Code) (hl : LoopsOK P lv K c) (s : qzw) (k : Ex → qzw → Option R) (r : R), code H P lv K NF m c s k = some r → ∃ ex s', Tri P c s.toA ex s'.toA K ∧ k ex s' = some r
  | .skip, hl, s, k, r, h => ⟨.normal, s, fun ro w0 M E a w hro hR => wpIn_skip ⟨rfl, E, .refl _ _, hR⟩, h⟩
  | .label l, hl, s, k, r, h => ⟨.normal, s, fun ro w0 M E a w hro hR => wpIn_label ⟨rfl, E, .refl _ _, hR⟩, h⟩
  | .ret, hl, s, k, r, h => ⟨.ret, s, fun ro w0 M E a w hro hR => wpIn_ret ⟨rfl, E, .refl _ _, hR⟩, h⟩
  | .exit id, hl, s, k, r, h => ⟨.exit id, s, fun ro w0 M E a w hro hR => wpIn_exit ⟨rfl, E, .refl _ _, hR⟩, h⟩
  | .region id ops draw, hl, s, k, r, h => by
    simp only [code] at h
    obtain ⟨hint, ob, fs, s', h1, h2, h3⟩ := opsE_sound hH _ _ _ List.nodup_range h
    cases hd : (!draw || orderF P ops ([].reverse ++ fs)) with
    | true => rw [hd, forceS_eq] at h3; exact ⟨.normal, s', tri_region h1 h2 (by simpa using hd), h3⟩
    | false => rw [hd] at h3; cases h3
  | .seq x y, hl, s, k, r, h => by
    have hlx : LoopsOK P lv K x := fun z hz => hl z (List.mem_append_left _ hz)
    have hly : LoopsOK P lv K y := fun z hz => hl z (List.mem_append_right _ hz)
    simp only [code] at h
    obtain ⟨ex, s1, t1, h⟩ := code_sound hH x (hlx) s _ r h
    split at h
    · obtain ⟨ex2, s2, t2, h⟩ := code_sound hH y (hly) s1 _ r h
      refine ⟨ex2, s2, fun ro w0 M E a w hro hR => wpIn_seq (wpIn_mono (t1 ro w0 M E a w (no_left hro) hR) ?_), h⟩
      rintro e a' w' ⟨rfl, E', hle, h'⟩
      refine wpIn_mono (t2 ro w0 M E' a' w' (no_right hro) h') ?_
      rintro e2 a2 w2 ⟨rfl, E2, hle2, h2⟩
      exact ⟨rfl, E2, hle.trans hle2, h2⟩
    · rename_i hne
      refine ⟨ex, s1, fun ro w0 M E a w hro hR => wpIn_seq (wpIn_mono (t1 ro w0 M E a w (no_left hro) hR) ?_), h⟩
      rintro e a' w' ⟨rfl, E', hle, h'⟩
      cases ex with
      | normal => exact absurd rfl hne
      | exit id => exact ⟨rfl, E', hle, h'⟩
      | ret => exact ⟨rfl, E', hle, h'⟩
  | .cond c x y, hl, s, k, r, h => by
    have hlx : LoopsOK P lv K x := fun z hz => hl z (List.mem_append_left _ hz)
    have hly : LoopsOK P lv K y := fun z hz => hl z (List.mem_append_right _ hz)
    simp only [code] at h
    split at h
    · rename_i t
      split at h
      · rename_i b hb
        cases b with
        | true =>
          simp only [qyw] at h
          rw [setSlot_same hb] at h
          obtain ⟨ex, s1, t1, h⟩ := code_sound hH x (hlx) s _ r h
          refine ⟨ex, s1, fun ro w0 M E a w hro hR => ?_, h⟩
          have := hR.ev (x := .tmp t) (v := .bool true) hb
          exact wpIn_cond_true (by simpa [den] using this.symm) (t1 ro w0 M E a w (no_left hro) hR)
        | false =>
          simp only [qyw] at h
          rw [setSlot_same hb] at h
          obtain ⟨ex, s1, t1, h⟩ := code_sound hH y (hly) s _ r h
          refine ⟨ex, s1, fun ro w0 M E a w hro hR => ?_, h⟩
          have := hR.ev (x := .tmp t) (v := .bool false) hb
          exact wpIn_cond_false (by simpa [den] using this.symm) (t1 ro w0 M E a w (no_right hro) hR)
      · cases h
    · rename_i b
      cases b with
      | true =>
        simp only [qyw] at h
        obtain ⟨ex, s1, t1, h⟩ := code_sound hH x (hlx) s _ r h
        exact ⟨ex, s1, fun ro w0 M E a w hro hR => wpIn_cond_true rfl (t1 ro w0 M E a w (no_left hro) hR), h⟩
      | false =>
        simp only [qyw] at h
        obtain ⟨ex, s1, t1, h⟩ := code_sound hH y (hly) s _ r h
        exact ⟨ex, s1, fun ro w0 M E a w hro hR => wpIn_cond_false rfl (t1 ro w0 M E a w (no_right hro) hR), h⟩
    · cases h
  | .block id x, hl, s, k, r, h => by
    have hlx : LoopsOK P lv K x := hl
    simp only [code] at h
    obtain ⟨ex, s1, t1, h⟩ := code_sound hH x (hlx) s _ r h
    split at h
    · rename_i j
      refine ⟨_, s1, fun ro w0 M E a w hro hR => wpIn_block (wpIn_mono (t1 ro w0 M E a w hro hR) ?_), h⟩
      rintro e a' w' ⟨rfl, E', hle, h'⟩
      simp only [Ex.to, Exit.inBlock]
      by_cases hj : j = id
      · subst hj; rw [if_pos rfl, if_pos (Nat.beq_refl j)]; exact ⟨rfl, E', hle, h'⟩
      · rw [if_neg hj, if_neg (by rw [beqT]; exact hj)]; exact ⟨rfl, E', hle, h'⟩
    · rename_i hne
      refine ⟨ex, s1, fun ro w0 M E a w hro hR => wpIn_block (wpIn_mono (t1 ro w0 M E a w hro hR) ?_), h⟩
      rintro e a' w' ⟨rfl, E', hle, h'⟩
      cases ex with
      | normal => exact ⟨rfl, E', hle, h'⟩
      | exit j => exact absurd rfl (hne j)
      | ret => exact ⟨rfl, E', hle, h'⟩
  | .loop x, hl, s, k, r, h => by
    simp only [code] at h
    split at h
    · rename_i t hgc
      rw [forceS_eq] at h
      split at h
      · rename_i e he
        have hent : ∃ id, headReg x = some id ∧ lv.ent id = some e := by
          unfold entOf at he
          split at he
          · rename_i i hi; exact ⟨i, hi, he⟩
          · cases he
        obtain ⟨id, h1, h2⟩ := hent
        obtain ⟨ex, s', ht, hk⟩ := LAns.sound _ (hl x (List.mem_cons_self ..) id e h1 h2 t) h
        refine ⟨ex, s', fun ro w0 M E a w hro hR => ?_, hk⟩
        obtain ⟨ob, hren, hob⟩ := compact_ren hgc
        obtain ⟨g1, g2⟩ := hR.ren hren hob
        refine wpIn_mono (ht ro w0 M _ a w hro g1) ?_
        rintro e' a' w' ⟨rfl, E', hle, h'⟩
        exact ⟨rfl, E', fun n p hn hE => hle n p hn (by simp [g2 n hn, hE]), h'⟩
      obtain ⟨ex, s', hk, hr⟩ := iter_sound (fun s k r hh => code_sound hH x (fun z hz => hl z (List.mem_cons_of_mem _ hz)) s k r hh) _ _ h
      refine ⟨ex, s', fun ro w0 M E a w hro hR => wpIn_loop_rounds m ?_, hk⟩
      obtain ⟨ob, hren, hob⟩ := compact_ren hgc
      obtain ⟨g1, g2⟩ := hR.ren hren hob
      exact hr ro w0 M E _ a w hro (fun n p hn hE => by simp [g2 n hn, hE]) g1
    · cases h
  | .rangeFunc f ps asg body, hl, s, k, r, h => by
    simp only [code] at h
    obtain ⟨e, s', t, hk⟩ := rangeE_sound hH h
    exact ⟨e, s', t, hk⟩
  | .scope c, hl, s, k, r, h => by
    simp only [code] at h
    obtain ⟨ex, s1, t1, h⟩ := code_sound hH c hl _ _ _ h
    refine ⟨ex, s1, fun ro w0 M E a w hro hR => wpIn_scope (t1 ro w0 M E a w hro hR) ?_, h⟩
    rintro l a w ⟨e, _⟩
    cases ex <;> cases e
  | .goto _, hl, s, k, r, h => by simp [code] at h
  | .refuse _, hl, s, k, r, h => by simp [code] at h
end Go.Proofs.YtphhepnldndbhaaGreatDoor.Sx
namespace Go.Proofs.YtphhepnldndbhaaGreatDoor.Sx
open Go
variable {P : Program} {R : Type}
def AObj.ltN (n : Nat) (o : AObj) : Bool := o.names.all fun m => Nat.blt m n
theorem all_append_names {f : Nat → Bool} {a b : List Nat} : (a ++ b).all f = true ↔ a.all f = true ∧ b.all f = true := by simp [List.all_append]
mutual
theorem avoid_lt {D : Nat → Bool} : ∀ (v : AV), (v.names.all fun m => !D m) = true → Avoid D v
  | .bool b, _ => .bool _ _
  | .int k n, _ => .int _ _ _
  | .str s, _ => .str _ _
  | .nilptr, _ => .nilptr _
  | .qzz, _ => .qzz _
  | .nilfunc, _ => .nilfunc _
  | .nilmap, _ => .nilmap _
  | .niliface, _ => .niliface _
  | .gptr g off, _ => fun _ _ e => e
  | .bad, _ => fun _ _ e => by simp [den] at e
  | .ptr nm off, h => .ptr (by simpa [AV.names] using h)
  | .slice nm off l c, h => .slice (by simpa [AV.names] using h)
  | .vec nm l, h => .vec (by simpa [AV.names] using h)
  | .dsl nm l, h => .dsl (by simpa [AV.names] using h)
  | .dptr nm l, h => .dptr (by simpa [AV.names] using h)
  | .rptr nm w i j, h => .rptr (by simpa [AV.names] using h)
  | .vsl nm w i j, h => .vsl (by simpa [AV.names] using h)
  | .mapp nm, h => .mapp (by simpa [AV.names] using h)
  | .agg cs, h => .agg (avoidL_lt cs h)
  | .tuple cs, h => .tuple (avoidL_lt cs h)
  | .func f as cs, h => by
    obtain ⟨h1, h2⟩ := all_append_names.1 h
    intro E x e
    simp only [den] at e ⊢
    split at e
    · rename_i hf
      rw [if_pos hf]
      obtain ⟨nm, p, rfl, rfl, hp, rfl⟩ := yfOf_some e
      have : D nm = false := by simpa [AV.names, namesL] using h1
      simp [yfOf, drop_some this, hp]
    · rename_i hf
      rw [if_neg hf]
      split at e
      · rename_i xs ys hx hy
        rw [avoidL_lt as h1 E xs hx, avoidL_lt cs h2 E ys hy]; exact e
      · cases e
  | .iface t v, h => by
    intro E x e
    simp only [den, Option.map_eq_some_iff] at e ⊢
    obtain ⟨y, hy, rfl⟩ := e
    exact ⟨y, avoid_lt v h E y hy, rfl⟩
theorem avoidL_lt {D : Nat → Bool} : ∀ (vs : List AV), ((namesL vs).all fun m => !D m) = true → AvoidL D vs
  | [], _ => .nil D
  | v :: vs, h => by
    obtain ⟨h1, h2⟩ := all_append_names.1 h
    exact .cons (avoid_lt v h1) (avoidL_lt vs h2)
end
theorem avoidO_lt {D : Nat → Bool} (o : AObj) (h : (o.names.all fun m => !D m) = true) : AvoidO D o := by
  cases o with
  | cells cs t => exact .cells (avoidL_lt _ h)
  | vec cs t sz => exact .vec (avoidL_lt _ h)
  | ro off cs => exact .ro (avoidL_lt _ h)
  | flat m cs => exact .flat (avoidL_lt _ h)
  | flatR m sh rows => exact .flatR _ _ _ _
  | flatN sh rows => exact .flatN _ _ _
  | iter s p => exact .iter _ _ _
  | shut cs t sz => exact .shut (avoidL_lt _ h)
  | mapS n ks => exact .mapS _ _ _
  | loopR up n ix cs ps asg body => exact .loopR (avoidL_lt _ h)
  | dead => exact .dead _
def resP (P : Program) (s : qzw) : List ResultVar → Option (Bool × List AV)
  | [] => some (true, [])
  | .tmp t :: rs =>
    match (s.slots[t]?).join, resP P s rs with
    | some v, some (b, vs) => some (b, v :: vs)
    | _, _ => none
  | .cell a t :: rs =>
    match (s.slots[a]?).join with
    | some (.ptr nm off) =>
      match lookP s.mem nm with
      | some (.raw o) =>
        match loadA P {} t off o, o.known, P.underlying t, resP P s rs with
        | some r, some (o0, cs), some d, some (b, vs) => some (Nat.ble o0 off && (if isAggD d then Nat.ble (off - o0 + P.cellsOf t) cs.length else true) && b, r.val :: vs)
        | _, _, _, _ => none
      | _ => none
    | _ => none
theorem resP_sound {s : qzw} : ∀ (rs : List ResultVar) (b : Bool) (vs : List AV), resP P s rs = some (b, vs) → b = true → ∃ ob, resA P s.toA rs [] = some (ob, vs) ∧ AllP ob
  | [], b, vs, h, _ => by simp [resP] at h; obtain ⟨_, rfl⟩ := h; exact ⟨[], rfl, trivial⟩
  | .tmp t :: rs, b, vs, h, hb => by
    simp only [resP] at h
    split at h
    · rename_i v b' vs' h1 h2
      cases h
      obtain ⟨ob, k1, k2⟩ := resP_sound rs _ _ h2 hb
      have h1 : (s.toA.slots[t]?).join = some v := h1
      exact ⟨ob, by simp only [resA, h1, List.tail_nil, k1], k2⟩
    · cases h
  | .cell a t :: rs, b, vs, h, hb => by
    simp only [resP] at h
    split at h
    · rename_i nm off h1
      split at h
      · rename_i o hl
        split at h
        · rename_i q o0 cs d b' vs' h3 h4 h5 h6
          cases h
          simp only [Bool.and_eq_true] at hb
          obtain ⟨ob, k1, k2⟩ := resP_sound rs b' vs' h6 hb.2
          have hm : s.toA.mem[nm]? = some (some o) := by
            simp only [lookP, Option.join_eq_some_iff] at hl
            simp only [qzw.toA, memA_get, hl, Option.map_some, PObj.toA]
          have h1 : (s.toA.slots[a]?).join = some (.ptr nm off) := h1
          refine ⟨q.obl ++ ob, by simp only [resA, h1, hm, List.headD_nil, h3, List.tail_nil, k1], qzu.2 ⟨?_, k2⟩⟩
          simp only [loadA, h4, h5] at h3
          obtain ⟨⟨b1, b2⟩, _⟩ := hb
          rw [bleT] at b1
          split at h3
          · rename_i hd
            rw [if_pos hd, bleT] at b2
            cases h3; exact ⟨b1, b2, trivial⟩
          · split at h3
            · cases h3; exact ⟨b1, trivial⟩
            · cases h3
        · cases h
      · cases h
    · cases h
def resSlots : List ResultVar → List Nat
  | [] => []
  | .tmp t :: rs => t :: resSlots rs
  | .cell a _ :: rs => a :: resSlots rs
def PObj.ltN (n : Nat) : PObj → Bool
  | .raw o => o.ltN n
  | _ => true
theorem namesL_ints (k : IntKind) : ∀ (l : List Int), namesL (ints k l) = []
  | [] => rfl
  | a :: l => by show (AV.int k a).names ++ namesL (ints k l) = []; rw [namesL_ints k l]; rfl
theorem namesL_u8s : ∀ (l : List UInt8), namesL (u8s l) = []
  | [] => rfl
  | a :: l => by show (AV.int .u8 (a.toNat : Int)).names ++ namesL (u8s l) = []; rw [namesL_u8s l]; rfl
theorem PObj.ltN_toA (n : Nat) (p : PObj) : p.ltN n = p.toA.ltN n := by
  cases p <;> simp [PObj.ltN, PObj.toA, AObj.ltN, AObj.names, namesL_ints, namesL_u8s, namesL_rows, namesL_bools]
def postB (npre n : Nat) : Nat → List PObj → Bool
  | _, [] => true
  | i, p :: ps => (match p.toA with
      | .dead => Nat.blt i npre
      | o => (Nat.blt i npre || o.mine) && p.ltN n) && postB npre n (i + 1) ps
def finB (npre : Nat) : List PObj → List PObj → Bool
  | p :: pre, q :: post => (!p.toA.owned || q.toA.owned || !q.toA.live) && finB npre pre post
  | _, _ => true
def unSome : List (Option PObj) → Option (List PObj)
  | some o :: m => (unSome m).map (o :: ·)
  | _ => some []
theorem sameO_refl (o : AObj) : sameO o o := by cases o <;> first | rfl | exact Fits.refl _
theorem postA_of {D : Nat → Bool} {npre n : Nat} {m : List (Option PObj)} (hD : ∀ i, Nat.blt i n = true → D i = false) : ∀ (ps : List PObj) (i : Nat), (∀ j p, ps[j]? = some p → m[i + j]? = some (some p)) → postB npre n i ps = true →
    ∃ ob, postA D (memA m) npre i (ps.map PObj.toA) = some ob ∧ AllP ob
  | [], i, _, _ => ⟨[], rfl, trivial⟩
  | p :: ps, i, hm, hb => by
    simp only [postB, PObj.ltN_toA, Bool.and_eq_true] at hb
    obtain ⟨hb1, hb2⟩ := hb
    obtain ⟨ob, h1, h2⟩ := postA_of hD ps (i + 1) (fun j q hq => by have := hm (j + 1) q (by simpa using hq); rwa [show i + (j + 1) = i + 1 + j by omega] at this) hb2
    have h0 : (memA m)[i]? = some (some p.toA) := by
      have := hm 0 p rfl
      rw [Nat.add_zero] at this
      rw [memA_get, this]; rfl
    simp only [List.map_cons]
    by_cases hd : p.toA = .dead
    · rw [hd] at hb1 h0 ⊢
      simp only [bltT] at hb1
      exact ⟨ob, by simp only [postA, h0, if_pos hb1, h1], h2⟩
    · have hb1' : (Nat.blt i npre || p.toA.mine) = true ∧ p.toA.ltN n = true := by
        generalize p.toA = o at hb1 hd
        cases o <;> first | exact absurd rfl hd | simpa [Bool.and_eq_true] using hb1
      have hav : AvoidO D p.toA := avoidO_lt _ (by
        have := hb1'.2
        simp only [AObj.ltN] at this
        refine List.all_eq_true.2 fun x hx => ?_
        have := List.all_eq_true.1 this x hx
        simp [hD x this])
      have hc : (decide (i < npre) || p.toA.mine) = true := by
        have := hb1'.1
        simpa [bltT] using this
      have hob : AllP (avoidO D p.toA) := by
        generalize p.toA = o at hav hd
        cases o <;> first | exact absurd rfl hd | exact trivial | exact ⟨hav, trivial⟩
      refine ⟨sameO p.toA p.toA :: (avoidO D p.toA ++ ob), ?_, sameO_refl _, qzu.2 ⟨hob, h2⟩⟩
      generalize p.toA = o at *
      cases o <;> first | exact absurd rfl hd | (simp only [postA, h0]; rw [if_pos (by simpa using hc), h1]; rfl)
def finR (P : Program) (rs : List ResultVar) (npre : Nat) (pre : List PObj) (k : AV → List PObj → Option R) (ex : Ex) (s : qzw) : Option R :=
  match ex with
  | .exit _ => none
  | _ =>
    match resP P s rs with
    | none => none
    | some (_, vs) =>
      let r1 := reach s.mem 1000 (List.range npre ++ namesL vs) []
      let keep := fun i => hasN (resSlots rs) i
      match compact npre 0 (reach s.mem 1000 (r1 ++ slotNames keep 0 s.slots) []) keep s with
      | none => none
      | some t =>
        match resP P t rs, unSome t.mem with
        | some (b, vs'), some os =>
          let post := os.take r1.length
          if Nat.ble npre post.length && postB npre post.length 0 post && finB npre pre post && ((one vs').names.all fun m => Nat.blt m post.length) then qyw b (forceV (one vs') fun v => forcePL post fun post => k v post) none else none
        | _, _ => none
def finP (P : Program) (fn : Func) (npre : Nat) (pre : List PObj) (k : AV → List PObj → Option R) (ex : Ex) (s : qzw) : Option R := finR P fn.results.toList npre pre k ex s
theorem unSome_get : ∀ (m : List (Option PObj)) (os : List PObj), unSome m = some os → ∀ (j : Nat) (p : PObj), os[j]? = some p → m[j]? = some (some p)
  | [], os, h, j, p, hj => by simp [unSome] at h; subst h; simp at hj
  | none :: m, os, h, j, p, hj => by simp [unSome] at h; subst h; simp at hj
  | some o :: m, os, h, j, p, hj => by
    simp only [unSome, Option.map_eq_some_iff] at h
    obtain ⟨os', h', rfl⟩ := h
    cases j with
    | zero => simp at hj; subst hj; rfl
    | succ j => simpa using unSome_get m os' h' j p (by simpa using hj)
theorem finB_all : ∀ (pre post : List PObj) (n : Nat), finB n pre post = true → (((pre.map PObj.toA).zip (post.map PObj.toA)).all fun p => !p.1.owned || p.2.owned || !p.2.live) = true
  | [], _, _, _ => by simp
  | _ :: _, [], _, _ => by simp
  | p :: pre, q :: post, n, h => by
    simp only [finB, Bool.and_eq_true] at h
    simp only [List.map_cons, List.zip_cons_cons, List.all_cons, Bool.and_eq_true]
    exact ⟨h.1, finB_all pre post n h.2⟩
def PObj.lentP : PObj → PObj
  | .raw o => .raw o.lent
  | .flatI _ l => .flatI false l
  | .flatU _ l => .flatU false l
  | o => o
theorem lentP_toA (o : PObj) : o.lentP.toA = o.toA.lent := by cases o <;> rfl
def startP (ntmps : Nat) (args : List AV) (pre : List PObj) (NF : Nat) : qzw :=
  ⟨args.map some ++ List.replicate (ntmps - args.length) none, pre.map (fun o => some o.lentP) ++ List.replicate NF none⟩
theorem startP_toA (ntmps : Nat) (args : List AV) (pre : List PObj) (NF : Nat) : (startP ntmps args pre NF).toA = start ntmps args (pre.map PObj.toA) NF := by
  simp only [startP, qzw.toA, start, memA, List.map_append, List.map_map, List.map_replicate, Option.map_none]
  congr 2
  apply List.map_congr_left
  intro x _
  simp [lentP_toA]
theorem fin_data {rs : List ResultVar} {pre : List PObj} {ex : Ex} {s : qzw} {k : AV → List PObj → Option R} {r : R} (h : finR P rs pre.length pre k ex s = some r) : (ex = .ret ∨ ex = .normal) ∧
    ∃ (vs' : List AV) (post : List PObj) (rn : List Nat) (t : qzw) (ob ob2 : List Prop), resP P t rs = some (true, vs') ∧ renA rn pre.length s.toA t.toA = some ob ∧ AllP ob ∧ finA P rs [] t.toA pre.length (one vs') (post.map PObj.toA) = some ob2 ∧ AllP ob2 ∧
      (((pre.map PObj.toA).zip (post.map PObj.toA)).all fun p => !p.1.owned || p.2.owned || !p.2.live) = true ∧ k (one vs') post = some r := by
  have hex : (ex = .ret ∨ ex = .normal) := by cases ex with | exit i => cases h | ret => exact .inl rfl | normal => exact .inr rfl
  refine ⟨hex, ?_⟩
  have h : (match resP P s rs with
    | none => none
    | some (_, vs) =>
      let r1 := reach s.mem 1000 (List.range pre.length ++ namesL vs) []
      let keep := fun i => hasN (resSlots rs) i
      match compact pre.length 0 (reach s.mem 1000 (r1 ++ slotNames keep 0 s.slots) []) keep s with
      | none => none
      | some t =>
        match resP P t rs, unSome t.mem with
        | some (b, vs'), some os =>
          let post := os.take r1.length
          if Nat.ble pre.length post.length && postB pre.length post.length 0 post && finB pre.length pre post && ((one vs').names.all fun m => Nat.blt m post.length) then qyw b (forceV (one vs') fun v => forcePL post fun post => k v post) none else none
        | _, _ => none) = some r := by
    rcases hex with rfl | rfl <;> exact h
  split at h
  · cases h
  · rename_i b0 vs hvs
    simp only at h
    split at h
    · cases h
    · rename_i t hc
      split at h
      · rename_i b vs' os hr hos
        generalize hpost : os.take (reach s.mem 1000 (List.range pre.length ++ namesL vs) []).length = post at h
        split at h
        · rename_i hcond
          simp only [Bool.and_eq_true] at hcond
          obtain ⟨⟨⟨c1, c2⟩, c3⟩, c4⟩ := hcond
          cases b with
          | false => cases h
          | true =>
            have h : k (one vs') post = some r := by simpa only [qyw, forceV_eq, forcePL_eq] using h
            obtain ⟨ob, hren, hob⟩ := compact_ren hc
            obtain ⟨o1, h1, k1⟩ := resP_sound _ _ _ hr rfl
            have hget : ∀ j p, post[j]? = some p → t.mem[0 + j]? = some (some p) := fun j p hj => by
              rw [Nat.zero_add]
              refine unSome_get _ _ hos j p ?_
              rw [← hpost, List.getElem?_take] at hj
              split at hj
              · exact hj
              · cases hj
            have hD : ∀ i, Nat.blt i post.length = true → (fun n => decide ((post.map PObj.toA).length ≤ n)) i = false := fun i hi => by
              rw [bltT] at hi
              simp only [List.length_map, decide_eq_false_iff_not]; omega
            obtain ⟨o2, h2, k2⟩ := postA_of (D := fun n => decide ((post.map PObj.toA).length ≤ n)) (npre := pre.length) (n := post.length) hD post 0 hget c2
            have hav : Avoid (fun n => decide ((post.map PObj.toA).length ≤ n)) (one vs') := avoid_lt _ (List.all_eq_true.2 fun x hx => by
              have := hD x (List.all_eq_true.1 c4 x hx)
              simp only at this
              simp only [this]; rfl)
            have hava : AllP (avoidA (fun n => decide ((post.map PObj.toA).length ≤ n)) (one vs')) := by
              generalize one vs' = v at hav c4
              cases v <;> first
                | trivial
                | exact ⟨hav, trivial⟩
                | (simp only [avoidA]
                   rw [if_neg]
                   · trivial
                   · have := hD _ (by simpa [AV.names] using c4)
                     simp only at this
                     rw [this]; simp)
            have hfin : finA P rs [] t.toA pre.length (one vs') (post.map PObj.toA) = some (o1 ++ (one vs' = one vs') :: (avoidA (fun n => decide ((post.map PObj.toA).length ≤ n)) (one vs') ++ o2)) := by
              unfold finA
              have h2' : postA (fun n => decide ((post.map PObj.toA).length ≤ n)) t.toA.mem pre.length 0 (post.map PObj.toA) = some o2 := h2
              simp only [h1]
              rw [h2']
              simp only
              rw [if_pos]
              rw [bleT] at c1
              simpa using c1
            exact ⟨vs', post, _, t, ob, _, hr, hren, hob, hfin, qzu.2 ⟨k1, rfl, qzu.2 ⟨hava, k2⟩⟩, finB_all pre post _ c3, h⟩
        · cases h
      · cases h
theorem fin_sound {f : FuncId} {fn : Func} {body : Code} {args : List AV} {pre : List PObj} {NF : Nat} {ex : Ex} {s : qzw} {k : AV → List PObj → Option R} {r : R} (hf : P.funcs[f]? = some fn) (hb : fn.body = some body) (hn : (fn.name == "runtime.NumGoroutine") = false)
    (ht : Tri P body (startP fn.ntmps args pre NF).toA ex s.toA pre.length) (h : finP P fn pre.length pre k ex s = some r) (hfy : f ≠ yF := by decide) : ∃ res post, Meets P f args (pre.map PObj.toA) res (post.map PObj.toA) ∧ k res post = some r := by
  obtain ⟨hex, vs', post, rn, t, ob, ob2, hr, hren, hob, hfin, hob2, hpq, hk⟩ := fin_data h
  refine ⟨one vs', post, ?_, hk⟩
  have ht' := Tri.ren _ ht hren hob
  rw [startP_toA] at ht'
  have hlen : (pre.map PObj.toA).length = pre.length := by simp
  rw [← hlen] at ht' hfin
  exact meets_of_tri hfy hf hb (callFunc_enter hf (by rw [hb]; rfl) hn) ht' hex hfin hob2 hpq
inductive Ans where
  | ret (res : AV) (post : List PObj)
  | fail
  | br (b : Bool) (x y : Ans)
def Ans.run (k : AV → List PObj → Option R) : Ans → Option R
  | .ret res post => k res post
  | .fail => none
  | .br b x y => qyw b (x.run k) (y.run k)
def Ans.chk (b : Bool) (x : Ans) : Ans := .br b x .fail
def AnsOK (P : Program) (f : FuncId) (args : List AV) (pre : List PObj) : Ans → Prop
  | .ret res post => Meets P f args (pre.map PObj.toA) res (post.map PObj.toA)
  | .fail => True
  | .br b x y => (b = true → AnsOK P f args pre x) ∧ (b = false → AnsOK P f args pre y)
theorem Ans.sound {f : FuncId} {args : List AV} {pre : List PObj} {k : AV → List PObj → Option R} {r : R} : ∀ (a : Ans), AnsOK P f args pre a → a.run k = some r → ∃ res post, Meets P f args (pre.map PObj.toA) res (post.map PObj.toA) ∧ k res post = some r
  | .ret res post, h, e => ⟨res, post, h, e⟩
  | .fail, h, e => by cases e
  | .br b x y, h, e => by
    cases b with
    | true => exact Ans.sound x (h.1 rfl) e
    | false => exact Ans.sound y (h.2 rfl) e
abbrev Ent := List AV → List PObj → Ans
abbrev Tab := List (FuncId × Ent)
def EntOK (P : Program) (f : FuncId) (e : Ent) : Prop := ∀ args pre, AnsOK P f args pre (e args pre)
def TabOK (P : Program) (T : Tab) : Prop := ∀ f e, T.lookup f = some e → EntOK P f e
def nolv : FuncId → Lv := fun _ => {}
def LvOK (P : Program) (lv : FuncId → Lv) : Prop := ∀ (f : Nat) (fn : Func) body, P.funcs[f]? = some fn → fn.body = some body → ∀ K, LoopsOK P (lv f) K body
theorem qyz : LvOK P nolv := fun f fn body h1 h2 K x hx id e h3 h4 => by cases h4
def roundE (H : Hd R) (P : Program) (NF m : Nat) (args : List AV) (pre : List PObj) (k : AV → List PObj → Option R) : Option R :=
  match args with
  | .ptr nm 0 :: vals =>
    match lookP (pre.map some) nm with
    | some (.raw (.loopR .ready n ix cs ps asg body)) =>
      if Nat.beq ps.length vals.length && noRange asg && noRange body then
        code H P {} pre.length NF m asg ⟨setParams (roundSlots n ix cs) ps vals, pre.map (fun o => some o.lentP) ++ List.replicate NF none⟩ fun ex s1 => match ex with
          | .normal => match lookP s1.mem nm with
            | some (.raw (.loopR .ready n1 ix1 cs1 ps1 asg1 body1)) =>
              code H P {} pre.length NF m body ⟨s1.slots, s1.mem.set nm (some (.raw (.loopR .busy n1 ix1 cs1 ps1 asg1 body1)))⟩ fun ex s2 =>
                match lookP s2.mem nm with
                | some (.raw (.loopR .busy n2 ix2 cs2 ps2 asg2 body2)) => finR P [] pre.length pre (fun _ post => k (.bool (LSt.of ex).pend.isNone) post) .normal ⟨s2.slots, s2.mem.set nm (some (.raw (.loopR (.of ex) n2 ix2 cs2 ps2 asg2 body2)))⟩
                | _ => none
            | _ => none
          | _ => none
      else none
    | _ => none
  | _ => none
theorem lookA {m : List (Option PObj)} {n : Nat} {o : AObj} (h : lookP m n = some (.raw o)) : (memA m)[n]? = some (some o) := by
  simp only [lookP, Option.join_eq_some_iff] at h
  rw [memA_get, h]; rfl
theorem qyt {K : Nat} {c : Code} : LoopsOK P {} K c := fun x hx id e h3 h4 => by cases h4
theorem roundE_sound {H : Hd R} (hH : HOK P H) {NF m : Nat} {args : List AV} {pre : List PObj} {k : AV → List PObj → Option R} {r : R} (h : roundE H P NF m args pre k = some r) :
    ∃ res post, Meets P yF args (pre.map PObj.toA) res (post.map PObj.toA) ∧ k res post = some r := by
  unfold roundE at h
  split at h
  · rename_i nm vals
    split at h
    · rename_i n ix cs ps asg body hpre
      split at h
      · rename_i hc
        simp only [Bool.and_eq_true, beqT] at hc
        obtain ⟨⟨hc1, hc2⟩, hc3⟩ := hc
        obtain ⟨ex1, s1, t1, h⟩ := code_sound hH asg qyt _ _ _ h
        cases ex1 with
        | exit i => cases h
        | ret => cases h
        | normal =>
          simp only at h
          split at h
          · rename_i n1 ix1 cs1 ps1 asg1 body1 hl1
            obtain ⟨ex2, s2, t2, h⟩ := code_sound hH body qyt _ _ _ h
            · split at h
              · rename_i n2 ix2 cs2 ps2 asg2 body2 hl2
                obtain ⟨hex, vs', post, rn, t, ob, ob2, hr, hren, hob, hfin, hob2, hpq, hk⟩ := fin_data h
                refine ⟨.bool (LSt.of ex2).pend.isNone, post, ?_, hk⟩
                have hv : vs' = [] := by simp [resP] at hr; exact hr
                subst hv
                have hlen : (pre.map PObj.toA).length = pre.length := by simp
                have hp' : (pre.map PObj.toA)[nm]? = some (.loopR .ready n ix cs ps asg body) := by
                  have := lookA hpre
                  simp only [memA, List.map_map, List.getElem?_map, Option.map_eq_some_iff] at this ⊢
                  obtain ⟨o, ho, e⟩ := this
                  exact ⟨o, ho, by simpa using e⟩
                have e1 : (⟨setParams (roundSlots n ix cs) ps vals, pre.map (fun o => some o.lentP) ++ List.replicate NF none⟩ : qzw).toA = roundStart n ix cs ps vals (pre.map PObj.toA) NF := by
                  simp only [qzw.toA, roundStart, memA, List.map_append, List.map_map, List.map_replicate, Option.map_none]
                  congr 2
                  apply List.map_congr_left
                  intro x _
                  simp [lentP_toA]
                rw [e1] at t1
                have e2 : (⟨s1.slots, s1.mem.set nm (some (.raw (.loopR .busy n1 ix1 cs1 ps1 asg1 body1)))⟩ : qzw).toA = { s1.toA with mem := s1.toA.mem.set nm (some (.loopR .busy n1 ix1 cs1 ps1 asg1 body1)) } := by
                  simp only [qzw.toA, memA_set]; rfl
                rw [e2] at t2
                have e3 : (⟨s2.slots, s2.mem.set nm (some (.raw (.loopR (.of ex2) n2 ix2 cs2 ps2 asg2 body2)))⟩ : qzw).toA = { s2.toA with mem := s2.toA.mem.set nm (some (.loopR (.of ex2) n2 ix2 cs2 ps2 asg2 body2)) } := by
                  simp only [qzw.toA, memA_set]; rfl
                rw [e3] at hren
                rw [← hlen] at t1 t2 hren hfin
                exact meets_round hp' hc1 hc2 hc3 t1 (lookA hl1) t2 (lookA hl2) hren hob hfin hob2 hpq
              · cases h
          · cases h
      · cases h
    · cases h
  · cases h
def ent (P : Program) (T : Tab) (lv : FuncId → Lv) (NF m : Nat) : Nat → Hd R
  | 0, f, args, pre, k => match T.lookup f with
    | some e => (e args pre).run k
    | none => none
  | d + 1, f, args, pre, k => match T.lookup f with
    | some e => (e args pre).run k
    | none => if Nat.beq f yF then roundE (ent P T lv NF m d) P NF m args pre k else match P.funcs[f]? with
      | some fn => match fn.body with
        | some body => code (ent P T lv NF m d) P (lv f) pre.length NF m body (startP fn.ntmps args pre NF) (finP P fn pre.length pre k)
        | none => none
      | none => none
theorem qzv {T : Tab} (hT : TabOK P T) (hn : ∀ (f : Nat) (fn : Func), P.funcs[f]? = some fn → (fn.name == "runtime.NumGoroutine") = false) {lv : FuncId → Lv} (hL : LvOK P lv) {NF m : Nat} : ∀ d, HOK P (ent (R := R) P T lv NF m d)
  | 0, f, args, pre, k, r, h => by
    simp only [ent] at h
    split at h
    · rename_i e he
      exact Ans.sound _ (hT f e he args pre) h
    · cases h
  | d + 1, f, args, pre, k, r, h => by
    simp only [ent] at h
    split at h
    · rename_i e he
      exact Ans.sound _ (hT f e he args pre) h
    · split at h
      · rename_i hfy
        obtain rfl := beqT.1 hfy
        exact roundE_sound (qzv hT hn hL d) h
      · rename_i hfy
        split at h
        · rename_i fn hf
          split at h
          · rename_i body hb
            obtain ⟨ex, s, ht, hk⟩ := code_sound (qzv hT hn hL d) body (hL f fn body hf hb _) _ _ r h
            exact fin_sound hf hb (hn f fn hf) ht hk (fun e => hfy (by rw [e]; exact Nat.beq_refl yF))
          · cases h
        · cases h
theorem qyx {T : Tab} (hT : TabOK P T) (hn : ∀ (f : Nat) (fn : Func), P.funcs[f]? = some fn → (fn.name == "runtime.NumGoroutine") = false) {lv : FuncId → Lv} {NF m d : Nat} {f : FuncId} {args : List AV} {pre : List PObj} {res : AV} {post : List PObj}
    (h : ent (R := AV × List PObj) P T lv NF m d f args pre (fun a b => some (a, b)) = some (res, post)) (hL : LvOK P lv := by exact qyz) : Meets P f args (pre.map PObj.toA) res (post.map PObj.toA) := by
  obtain ⟨a, b, h1, h2⟩ := qzv hT hn hL d f args pre _ _ h
  cases h2; exact h1
def pure2 (a : AV) (b : List PObj) : Option (AV × List PObj) := some (a, b)
theorem ans_of {f : FuncId} {args : List AV} {pre : List PObj} : ∀ (a : Ans), (∀ res post, a.run pure2 = some (res, post) → Meets P f args (pre.map PObj.toA) res (post.map PObj.toA)) → AnsOK P f args pre a
  | .ret res post, h => h res post rfl
  | .fail, _ => trivial
  | .br b x y, h => ⟨fun e => ans_of x fun res post k => h res post (by rw [Ans.run, e]; exact k), fun e => ans_of y fun res post k => h res post (by rw [Ans.run, e]; exact k)⟩
end Go.Proofs.YtphhepnldndbhaaGreatDoor.Sx
namespace Go.Proofs.YtphhepnldndbhaaGreatDoor.Sx
open Go
theorem PostR.same {E : Env} {w : World} {pre : List AObj} (h : PreR E w pre) : PostR E E w w pre pre :=
  { le := .refl _, cut := h.fresh, objs := h.objs
    made := fun n b c o hn _ hE => by rw [h.fresh n hn] at hE; cases hE
    keep := fun _ _ _ => rfl
    bare := fun n b c hn hE => by rw [h.fresh n hn] at hE; cases hE
    newApart := fun n m o o' b c b' c' hn _ _ _ _ _ hE => by rw [h.fresh n hn] at hE; cases hE
    grow := Nat.le_refl _, os := rfl, tape := rfl, output := rfl }
theorem EqR.to {P : Program} {t : TypeId} {x y : AV} {r r' : Bool} (h : EqR P t x y r) (e : r = r') : EqR P t x y r' := e ▸ h
end Go.Proofs.YtphhepnldndbhaaGreatDoor.Sx
namespace Go.Proofs.YtphhepnldndbhaaGreatDoor.Sx
open Go
variable {P : Program}
theorem TabOK.nil : TabOK P [] := fun f e h => by simp at h
theorem TabOK.cons {T : Tab} {f : FuncId} {e : Ent} (h : EntOK P f e) (k : TabOK P T) : TabOK P ((f, e) :: T) := fun g e' hg => by
  rw [List.lookup_cons] at hg
  split at hg
  · rename_i hb
    have := beq_iff_eq.1 hb
    subst this
    cases hg; exact h
  · exact k g e' hg
def eSame : Ent := fun args pre => match args with | [v] => .ret v pre | _ => .fail
theorem eSame_ok {f : FuncId} {fn : Func} (hf : P.funcs[f]? = some fn) (h1 : (fn.name == "runtime.NumGoroutine") = false) (h2 : fn.body.isNone = true) (h3 : Extern.findNext fn = none) (h4 : Extern.find fn = some Extern.AbiNoEscape.same) (hfy : f ≠ yF := by decide) : EntOK P f eSame := by
  intro args pre
  unfold eSame
  split
  · intro w E vs hvs hp
    obtain ⟨x, zs, hx, hz, rfl⟩ := qxz.1 hvs
    simp only [denL, Option.some.injEq] at hz
    subst hz
    refine Does.of hfy (.inr ⟨x, w, ?_, E, x, rfl, hx, PostR.same hp⟩)
    rw [run_callFunc_extern hf h1 h2 h3 (e := Extern.AbiNoEscape.same) h4]
    rfl
  · trivial
def eIndexByte : Ent := fun args pre => match args with
  | [.str s, .int .u8 c] => .ret (.int .i64 (Lib.indexByte s c.toNat.toUInt8)) pre
  | _ => .fail
theorem eIndexByte_ok {f : FuncId} {fn : Func} (hf : P.funcs[f]? = some fn) (h1 : (fn.name == "runtime.NumGoroutine") = false) (h2 : fn.body.isNone = true) (h3 : Extern.findNext fn = none) (h4 : Extern.find fn = some Extern.BytealgIndexByte.indexByte) (hfy : f ≠ yF := by decide) : EntOK P f eIndexByte := by
  intro args pre
  unfold eIndexByte
  split
  · rename_i s c
    intro w E vs hvs hp
    obtain ⟨x, zs, hx, hz, rfl⟩ := qxz.1 hvs
    obtain ⟨y, us, hy, hu, rfl⟩ := qxz.1 hz
    simp only [denL, Option.some.injEq] at hu
    subst hu
    have hx : x = .string ⟨s.toArray⟩ := by simpa [den] using hx.symm
    have hy : y = .int .u8 c := by simpa [den] using hy.symm
    subst hx; subst hy
    refine Does.of hfy (.inr ⟨_, w, ?_, E, _, rfl, rfl, PostR.same hp⟩)
    rw [run_callFunc_extern hf h1 h2 h3 (e := Extern.BytealgIndexByte.indexByte) h4]
    rw [Lib.run_indexByteString]; rfl
  · trivial
end Go.Proofs.YtphhepnldndbhaaGreatDoor.Sx
namespace Go.Proofs.YtphhepnldndbhaaGreatDoor.Sx
open Go
variable {P : Program}
def endK (K NF : Nat) (kn kx : Nat → Bool) (ex : Ex) (s : qzw) : Option (Ex × qzw) :=
  match ex with
  | .normal => (gcL K NF kn s).map fun t => (.normal, t)
  | e => (gcL K NF kx s).map fun t => (e, t)
def noH {R : Type} : Hd R := fun _ _ _ _ => none
theorem noH_ok {R : Type} : HOK P (noH (R := R)) := fun f args pre k r h => by cases h
theorem qyy {H : Hd (Ex × qzw)} (hH : HOK P H) {lv : Lv} {K NF m : Nat} {x : Code} (hl : LoopsOK P lv K x) {kn kx : Nat → Bool} {s : qzw} {r : Ex × qzw} (h : code H P lv K NF m x s (endK K NF kn kx) = some r) : Tri P x s.toA r.1 r.2.toA K := by
  obtain ⟨ex, s', ht, hk⟩ := code_sound hH x hl s _ r h
  have key : ∀ {kp : Nat → Bool} {e : Ex}, ex = e → (gcL K NF kp s').map (fun t => (e, t)) = some r → Tri P x s.toA r.1 r.2.toA K := by
    intro kp e he hg
    subst he
    simp only [Option.map_eq_some_iff] at hg
    obtain ⟨t, hc, rfl⟩ := hg
    obtain ⟨ob, hren, hob⟩ := compact_ren hc
    exact Tri.ren _ ht hren hob
  cases ex with
  | normal => exact key rfl hk
  | exit id => exact key rfl hk
  | ret => exact key rfl hk
theorem loop_rounds {H : Hd (Ex × qzw)} (hH : HOK P H) {lv : Lv} {K NF m : Nat} {x : Code} (hl : LoopsOK P lv K x) (kn kx : Nat → Bool) {ι : Type} (inv : ι → qzw) (μ : ι → Nat) (res : ι → Ex × qzw)
    (step : ∀ i, (∃ j, μ j < μ i ∧ res j = res i ∧ code H P lv K NF m x (inv i) (endK K NF kn kx) = some (.normal, inv j)) ∨ code H P lv K NF m x (inv i) (endK K NF kn kx) = some (res i)) (hne : ∀ i, (res i).1 ≠ .normal) (i : ι) :
    Tri P (.loop x) (inv i).toA (res i).1 (res i).2.toA K := by
  refine tri_loop (ι := { j : ι // res j = res i }) (fun j => (inv j.1).toA) (fun j => μ j.1) (hne i) ?_ ⟨i, rfl⟩
  rintro ⟨j, hj⟩
  rcases step j with ⟨j', h1, h2, h3⟩ | h3
  · exact .inl ⟨⟨j', h2.trans hj⟩, h1, qyy hH hl h3⟩
  · right
    have := qyy hH hl h3
    rwa [hj] at this
end Go.Proofs.YtphhepnldndbhaaGreatDoor.Sx
namespace Go.Proofs.YtphhepnldndbhaaGreatDoor.Sx
open Go
variable {P : Program} {R : Type}
def restC : Nat → Code → Code
  | n + 1, .seq _ b => restC n b
  | _, c => c
def runsC (H : Hd R) (P : Program) (lv : Lv) (K NF m : Nat) (k : Ex → qzw → Option R) : Nat → Code → qzw → Option R
  | n + 1, .seq a b, s => code H P lv K NF m a s fun ex s' => match ex with
    | .normal => runsC H P lv K NF m k n b s'
    | e => k e s'
  | _, _, s => k .normal s
theorem runsC_sound {H : Hd R} (hH : HOK P H) {lv : Lv} {K NF m : Nat} {k : Ex → qzw → Option R} {r : R} : ∀ (n : Nat) (c : Code) (hl : LoopsOK P lv K c) (s : qzw), runsC H P lv K NF m k n c s = some r →
    (∃ ex s', ex ≠ .normal ∧ Tri P c s.toA ex s'.toA K ∧ k ex s' = some r) ∨ ∃ s1, (∀ ex s2, Tri P (restC n c) s1.toA ex s2 K → Tri P c s.toA ex s2 K) ∧ k .normal s1 = some r
  | 0, c, hl, s, h => .inr ⟨s, fun ex s2 ht => by cases c <;> exact ht, by cases c <;> exact h⟩
  | n + 1, c, hl, s, h => by
    cases c with
    | seq x y =>
      have hlx : LoopsOK P lv K x := fun z hz => hl z (List.mem_append_left _ hz)
      have hly : LoopsOK P lv K y := fun z hz => hl z (List.mem_append_right _ hz)
      simp only [runsC] at h
      obtain ⟨ex, s1, t1, h⟩ := code_sound hH x hlx s _ r h
      have comp : ∀ ex2 s2, ex = .normal → Tri P y s1.toA ex2 s2 K → Tri P (.seq x y) s.toA ex2 s2 K := fun ex2 s2 he t2 ro w0 M E a w hro hR => by
        subst he
        refine wpIn_seq (wpIn_mono (t1 ro w0 M E a w (no_left hro) hR) ?_)
        rintro e a' w' ⟨rfl, E', hle, h'⟩
        refine wpIn_mono (t2 ro w0 M E' a' w' (no_right hro) h') ?_
        rintro e2 a2 w2 ⟨rfl, E2, hle2, h2⟩
        exact ⟨rfl, E2, hle.trans hle2, h2⟩
      split at h
      · rcases runsC_sound hH n y hly s1 h with ⟨ex2, s2, hne, t2, hk⟩ | ⟨s2, t2, hk⟩
        · exact .inl ⟨ex2, s2, hne, comp _ _ rfl t2, hk⟩
        · exact .inr ⟨s2, fun ex3 s3 t3 => comp _ _ rfl (t2 ex3 s3 t3), hk⟩
      · rename_i hne
        refine .inl ⟨ex, s1, fun e => hne e, fun ro w0 M E a w hro hR => wpIn_seq (wpIn_mono (t1 ro w0 M E a w (no_left hro) hR) ?_), h⟩
        rintro e a' w' ⟨rfl, E', hle, h'⟩
        cases ex with
        | normal => exact absurd rfl hne
        | exit id => exact ⟨rfl, E', hle, h'⟩
        | ret => exact ⟨rfl, E', hle, h'⟩
    | _ => exact .inr ⟨s, fun ex s2 ht => ht, h⟩
theorem Tri.preRen {x : Code} {s t : qzw} {ex : Ex} {s' : AState} {K NF : Nat} {keep : Nat → Bool} (hgc : gcL K NF keep s = some t) (ht : Tri P x t.toA ex s' K) : Tri P x s.toA ex s' K := fun ro w0 M E a w hro hR => by
  obtain ⟨ob, hren, hob⟩ := compact_ren hgc
  obtain ⟨g1, g2⟩ := hR.ren hren hob
  refine wpIn_mono (ht ro w0 M _ a w hro g1) ?_
  rintro e' a' w' ⟨rfl, E', hle, h'⟩
  exact ⟨rfl, E', fun n p hn hE => hle n p hn (by simp [g2 n hn, hE]), h'⟩
end Go.Proofs.YtphhepnldndbhaaGreatDoor.Sx
namespace Go.Proofs.YtphhepnldndbhaaGreatDoor.Sx
open Go
variable {P : Program} {R : Type}
def GoesTo (P : Program) (fn : Func) (pre : List PObj) (k : AV → List PObj → Option R) (c : Code) (s : qzw) (r : R) : Prop :=
  ∃ ex s', Tri P c s.toA ex s'.toA pre.length ∧ finP P fn pre.length pre k ex s' = some r
theorem goes_code {H : Hd R} (hH : HOK P H) {lv : Lv} {NF m : Nat} {fn : Func} {pre : List PObj} {k : AV → List PObj → Option R} {c : Code} (hl : LoopsOK P lv pre.length c) {s : qzw} {r : R} (h : code H P lv pre.length NF m c s (finP P fn pre.length pre k) = some r) : GoesTo P fn pre k c s r := by
  obtain ⟨ex, s', t, hk⟩ := code_sound hH c hl s _ r h
  exact ⟨ex, s', t, hk⟩
theorem goes_cut {H : Hd (Ex × qzw)} (hH : HOK P H) {lv : Lv} {NF m n : Nat} {fn : Func} {pre : List PObj} {k : AV → List PObj → Option R} {c : Code} {kn kx : Nat → Bool} (hl : LoopsOK P lv pre.length c) {s st : qzw} {r : R}
    (h1 : runsC H P lv pre.length NF m (endK pre.length NF kn kx) n c s = some (.normal, st)) (h2 : GoesTo P fn pre k (restC n c) st r) : GoesTo P fn pre k c s r := by
  obtain ⟨ex2, s2, t2, hk2⟩ := h2
  rcases runsC_sound hH n c hl s h1 with ⟨ex1, s1, hne, t1, hk⟩ | ⟨s1, t1, hk⟩
  · exfalso
    cases ex1 with
    | normal => exact hne rfl
    | exit id => simp [endK] at hk
    | ret => simp [endK] at hk
  · simp only [endK, Option.map_eq_some_iff, Prod.mk.injEq] at hk
    obtain ⟨t, hc, _, rfl⟩ := hk
    exact ⟨ex2, s2, t1 _ _ (Tri.preRen hc t2), hk2⟩
theorem goes_meets (hn : ∀ (f : Nat) (fn : Func), P.funcs[f]? = some fn → (fn.name == "runtime.NumGoroutine") = false) {f : FuncId} {fn : Func} {body : Code} {args : List AV} {pre : List PObj} {NF : Nat} {k : AV → List PObj → Option R} {r : R}
    (hf : P.funcs[f]? = some fn) (hb : fn.body = some body) (h : GoesTo P fn pre k body (startP fn.ntmps args pre NF) r) (hfy : f ≠ yF := by decide) : ∃ res post, Meets P f args (pre.map PObj.toA) res (post.map PObj.toA) ∧ k res post = some r := by
  obtain ⟨ex, s', t, hk⟩ := h
  exact fin_sound hf hb (hn f fn hf) t hk hfy
theorem restC_add : ∀ (a b : Nat) (c : Code), restC b (restC a c) = restC (a + b) c
  | 0, b, c => by rw [Nat.zero_add]; cases c <;> rfl
  | a + 1, b, .seq x y => by rw [show a + 1 + b = (a + b) + 1 by omega]; exact restC_add a b y
  | a + 1, b, .skip => by rw [show a + 1 + b = (a + b) + 1 by omega]; cases b <;> rfl
  | a + 1, b, .region _ _ _ => by rw [show a + 1 + b = (a + b) + 1 by omega]; cases b <;> rfl
  | a + 1, b, .cond _ _ _ => by rw [show a + 1 + b = (a + b) + 1 by omega]; cases b <;> rfl
  | a + 1, b, .block _ _ => by rw [show a + 1 + b = (a + b) + 1 by omega]; cases b <;> rfl
  | a + 1, b, .loop _ => by rw [show a + 1 + b = (a + b) + 1 by omega]; cases b <;> rfl
  | a + 1, b, .rangeFunc _ _ _ _ => by rw [show a + 1 + b = (a + b) + 1 by omega]; cases b <;> rfl
  | a + 1, b, .exit _ => by rw [show a + 1 + b = (a + b) + 1 by omega]; cases b <;> rfl
  | a + 1, b, .scope _ => by rw [show a + 1 + b = (a + b) + 1 by omega]; cases b <;> rfl
  | a + 1, b, .label _ => by rw [show a + 1 + b = (a + b) + 1 by omega]; cases b <;> rfl
  | a + 1, b, .goto _ => by rw [show a + 1 + b = (a + b) + 1 by omega]; cases b <;> rfl
  | a + 1, b, .ret => by rw [show a + 1 + b = (a + b) + 1 by omega]; cases b <;> rfl
  | a + 1, b, .refuse _ => by rw [show a + 1 + b = (a + b) + 1 by omega]; cases b <;> rfl
end Go.Proofs.YtphhepnldndbhaaGreatDoor.Sx
namespace Go.Proofs.YtphhepnldndbhaaGreatDoor.Sx
open Go
variable {P : Program}
theorem set_get {α : Type} {l : List α} {j n : Nat} {a x : α} (h : (l.set j a)[n]? = some x) : (n = j ∧ x = a) ∨ (n ≠ j ∧ l[n]? = some x) := by
  rw [List.getElem?_set] at h
  split at h
  · rename_i e
    split at h
    · cases h; exact .inl ⟨e.symm, rfl⟩
    · cases h
  · rename_i e; exact .inr ⟨fun k => e k.symm, h⟩
end Go.Proofs.YtphhepnldndbhaaGreatDoor.Sx
namespace Go.Proofs.YtphhepnldndbhaaGreatDoor.Sx
open Go
variable {P : Program}
end Go.Proofs.YtphhepnldndbhaaGreatDoor.Sx
namespace Go.Proofs.YtphhepnldndbhaaGreatDoor.Sx
open Go
variable {P : Program} {R : Type}
theorem tri_seq {a b : Code} {s s1 s2 : AState} {ex : Ex} {K : Nat} (h1 : Tri P a s .normal s1 K) (h2 : Tri P b s1 ex s2 K) : Tri P (.seq a b) s ex s2 K := fun ro w0 M E ac w hro hR => by
  refine wpIn_seq (wpIn_mono (h1 ro w0 M E ac w (no_left hro) hR) ?_)
  rintro e a' w' ⟨rfl, E', hle, h'⟩
  refine wpIn_mono (h2 ro w0 M E' a' w' (no_right hro) h') ?_
  rintro e2 a2 w2 ⟨rfl, E2, hle2, h3⟩
  exact ⟨rfl, E2, hle.trans hle2, h3⟩
end Go.Proofs.YtphhepnldndbhaaGreatDoor.Sx
namespace Go.Proofs.YtphhepnldndbhaaGreatDoor.Sx
open Go
variable {P : Program}
end Go.Proofs.YtphhepnldndbhaaGreatDoor.Sx
namespace Go.Proofs.YtphhepnldndbhaaGreatDoor.Sx
open Go
variable {P : Program}
noncomputable def eqSt (a b : qzw) : Bool := @decide (a = b) (Classical.propDecidable _)
theorem eqSt_of {a b : qzw} (h : eqSt a b = true) : a = b := by unfold eqSt at h; exact @of_decide_eq_true _ (Classical.propDecidable _) h
theorem qzt (a : qzw) : eqSt a a = true := by unfold eqSt; exact @decide_eq_true _ (Classical.propDecidable _) rfl
def lvOf (g : FuncId) (kp : Nat → Option (List Nat)) (en : Nat → Option (Nat → qzw → LAns)) : FuncId → Lv := fun f => match Nat.beq f g with
  | true => { keep := kp, ent := en }
  | false => {}
theorem lvOf_ok {g : Nat} {fn : Func} {kp : Nat → Option (List Nat)} {en : Nat → Option (Nat → qzw → LAns)} (hg : P.funcs[g]? = some fn) (h : ∀ x ∈ qyu (bodyOf fn), ∀ id e, headReg x = some id → en id = some e → ∀ K t, LAnsOK P x K t (e K t)) : LvOK P (lvOf g kp en) := by
  intro f fn' body hf hb K x hx id e hid he t
  unfold lvOf at he
  cases hfg : Nat.beq f g with
  | false => rw [hfg] at he; cases he
  | true =>
    rw [hfg] at he
    obtain rfl := Nat.eq_of_beq_eq_true hfg
    obtain rfl : fn' = fn := Option.some.inj (hf.symm.trans hg)
    have hbody : body = bodyOf fn' := by unfold bodyOf; rw [hb]; rfl
    subst hbody
    exact h x hx id e hid he K t
def oneL (i : Nat) (e : Nat → qzw → LAns) : Nat → Option (Nat → qzw → LAns) := fun j => match Nat.beq j i with | true => some e | false => none
theorem oneL_some {i j : Nat} {e e' : Nat → qzw → LAns} (h : oneL i e j = some e') : e' = e ∧ j = i := by
  unfold oneL at h
  cases hj : Nat.beq j i with
  | true => rw [hj] at h; exact ⟨(Option.some.inj h).symm, Nat.eq_of_beq_eq_true hj⟩
  | false => rw [hj] at h; cases h
def twoL (i1 : Nat) (e1 : Nat → qzw → LAns) (i2 : Nat) (e2 : Nat → qzw → LAns) : Nat → Option (Nat → qzw → LAns) := fun j => match Nat.beq j i1 with | true => some e1 | false => oneL i2 e2 j
theorem twoL_some {i1 i2 j : Nat} {e1 e2 e' : Nat → qzw → LAns} (h : twoL i1 e1 i2 e2 j = some e') : (e' = e1 ∧ j = i1) ∨ (e' = e2 ∧ j = i2) := by
  unfold twoL at h
  cases hj : Nat.beq j i1 with
  | true => rw [hj] at h; exact .inl ⟨(Option.some.inj h).symm, Nat.eq_of_beq_eq_true hj⟩
  | false => rw [hj] at h; exact .inr (oneL_some h)
theorem lvOne_ok {g : Nat} {fn : Func} {x : Code} {i : Nat} {kp : Nat → Option (List Nat)} {e : Nat → qzw → LAns} (hg : P.funcs[g]? = some fn) (hl : qyu (bodyOf fn) = [x]) (h : ∀ K t, LAnsOK P x K t (e K t)) : LvOK P (lvOf g kp (oneL i e)) :=
  lvOf_ok hg fun y hy id e' hid he => by
    rw [hl] at hy
    obtain rfl := List.mem_singleton.1 hy
    obtain ⟨rfl, _⟩ := oneL_some he
    exact h
theorem lvTwo_ok {g : Nat} {fn : Func} {x y : Code} {i j : Nat} {kp : Nat → Option (List Nat)} {e1 e2 : Nat → qzw → LAns} (hg : P.funcs[g]? = some fn) (hl : qyu (bodyOf fn) = [x, y]) (hx : headReg x = some i) (hy : headReg y = some j) (hij : i ≠ j)
    (h1 : ∀ K t, LAnsOK P x K t (e1 K t)) (h2 : ∀ K t, LAnsOK P y K t (e2 K t)) : LvOK P (lvOf g kp (twoL i e1 j e2)) :=
  lvOf_ok hg fun z hz id e' hid he => by
    rw [hl] at hz
    rcases List.mem_cons.1 hz with rfl | hz
    · rw [hx] at hid; cases hid
      rcases twoL_some he with ⟨rfl, _⟩ | ⟨_, h⟩
      · exact h1
      · exact absurd h hij
    · obtain rfl := List.mem_singleton.1 hz
      rw [hy] at hid; cases hid
      rcases twoL_some he with ⟨_, h⟩ | ⟨rfl, _⟩
      · exact absurd h.symm hij
      · exact h2
noncomputable def eAt (K0 : Nat) (S : qzw) (a : LAns) : Nat → qzw → LAns := fun K st => .chk (Nat.beq K K0) (.chk (eqSt st S) a)
theorem eAt_ok {x : Code} {K0 : Nat} {S : qzw} {a : LAns} (h : LAnsOK P x K0 S a) (K : Nat) (t : qzw) : LAnsOK P x K t (eAt K0 S a K t) := by
  unfold eAt
  refine ⟨fun g1 => ⟨fun g2 => ?_, fun _ => trivial⟩, fun _ => trivial⟩
  obtain rfl := Nat.eq_of_beq_eq_true g1
  obtain rfl := eqSt_of g2
  exact h
abbrev nn {α : Type} (k : Nat) : List (Option α) := List.replicate k none
def chks {α : Type} (x : Option α) : List Bool → Option α
  | [] => x
  | b :: bs => qyw b (chks x bs) none
theorem qzy {α : Type} {x : Option α} : ∀ {bs : List Bool}, (∀ b ∈ bs, b = true) → chks x bs = x
  | [], _ => rfl
  | b :: bs, h => by
    unfold chks
    rw [h b (List.mem_cons_self ..)]
    exact qzy fun c hc => h c (List.mem_cons_of_mem _ hc)
end Go.Proofs.YtphhepnldndbhaaGreatDoor.Sx
