/- The evaluator, part E: regions and code, with what follows handed on. -/
import Derived.Test.YtpdhfopfjoinnaaDoorPxD3
set_option linter.unusedVariables false
set_option linter.unusedSimpArgs false
namespace Go.Proofs.YtpdhfopfjoinnaaDoor.Sx
open Go
variable {P : Program} {R : Type}

/-- How calls are answered. -/
abbrev Hd (R : Type) := FuncId → List AV → List PObj → (AV → List PObj → Option R) → Option R
def HOK (P : Program) (H : Hd R) : Prop := ∀ f args pre k r, H f args pre k = some r → ∃ res post, Meets P f args (pre.map PObj.toA) res (post.map PObj.toA) ∧ k res post = some r

def setP (mem : List (Option PObj)) : List Nat → List PObj → List (Option PObj)
  | n :: ns, o :: os => setP (mem.set n (some o)) ns os
  | _, _ => mem
theorem memA_setP : ∀ (ns : List Nat) (os : List PObj) (mem : List (Option PObj)), memA (setP mem ns os) = setMem (memA mem) ns (os.map PObj.toA)
  | [], os, mem => by simp [setP, setMem]
  | n :: ns, [], mem => by simp [setP, setMem]
  | n :: ns, o :: os, mem => by
    simp only [setP, List.map_cons, setMem]
    rw [memA_setP ns os]
    congr 1
    simp [memA, List.map_set]

/-- Slots whose truth must be told ahead of an operation. -/
def litTmps (ops : Array Oper) (o : Oper) : List Nat :=
  (match o.guard with
    | some (j, _) => match (ops[j]?).bind (·.dst) with | some d => [d] | none => []
    | none => []) ++
  (match o.op with
    | .pick (.tmp t) _ _ => [t]
    | _ => [])

def PState.setSlot (s : PState) (d : Nat) (v : AV) : PState := ⟨s.slots.set d (some v), s.mem⟩
def withLits : List Nat → PState → (PState → Option R) → Option R
  | [], s, k => k s
  | d :: ds, s, k => match (s.slots[d]?).join with
    | some (.bool b) => bcond b (withLits ds (s.setSlot d (.bool true)) k) (withLits ds (s.setSlot d (.bool false)) k)
    | _ => withLits ds s k

theorem setSlot_same {s : PState} {d : Nat} {v : AV} (h : (s.slots[d]?).join = some v) : s.setSlot d v = s := by
  simp only [Option.join_eq_some_iff] at h
  cases s with
  | mk sl m =>
    simp only [PState.setSlot, PState.mk.injEq, and_true]
    obtain ⟨h1, h2⟩ := List.getElem?_eq_some_iff.1 h
    rw [← h2, List.set_getElem_self]
theorem withLits_sound {k : PState → Option R} {r : R} : ∀ (ds : List Nat) (s : PState), withLits ds s k = some r → k s = some r
  | [], s, h => h
  | d :: ds, s, h => by
    simp only [withLits] at h
    split at h
    · rename_i b hb
      cases b with
      | true => simp only [bcond] at h; rw [setSlot_same hb] at h; exact withLits_sound ds s h
      | false => simp only [bcond] at h; rw [setSlot_same hb] at h; exact withLits_sound ds s h
    · exact withLits_sound ds s h

def altE (P : Program) (ops : Array Oper) (o : Oper) (s : PState) (k : Foot → PState → Option R) : Alt → Option R
  | .ok chk h upd new => bcond chk (match astep P ops h o s.toA with
      | some st => k st.foot ⟨st.st.slots, setP (if st.foot.ws.isEmpty then s.mem else setP s.mem st.foot.rd upd) st.foot.al new⟩
      | none => none) none
  | .br b x y => bcond b (altE P ops o s k x) (altE P ops o s k y)

/-- What a step did. -/
def Did (P : Program) (ops : Array Oper) (o : Oper) (s : PState) (k : Foot → PState → Option R) (r : R) : Prop :=
  ∃ h st s', astep P ops h o s.toA = some st ∧ AllP st.obl ∧ s'.toA = st.st ∧ k st.foot s' = some r

theorem callA_none {h : Hint} {o : Op} {vals : List AV} {cs : List AObj} (hc : h.call = none) : callA h P o vals cs = none := by
  unfold callA; split
  · rename_i e; rw [hc] at e; cases e
  · rfl

theorem altE_sound {ops : Array Oper} {o : Oper} {s : PState} {k : Foot → PState → Option R} {r : R} {vals : List AV} (hg : guardA ops o s.toA = some true) (hv : evs s.toA o.op.operands.toList = some vals) :
    ∀ (a : Alt), AltOK P o.op vals s.mem a → altE P ops o s k a = some r → Did P ops o s k r
  | .br b x y, ha, h => by
    cases b with
    | true => exact altE_sound hg hv x (ha.1 rfl) h
    | false => exact altE_sound hg hv y (ha.2 rfl) h
  | .ok chk h upd new, ha, hh => by
    cases chk with
    | false => simp [altE, bcond] at hh
    | true =>
      simp only [altE, bcond] at hh
      split at hh
      · rename_i st hst
        obtain ⟨hc, ha⟩ := ha rfl
        have hst0 := hst
        unfold astep at hst
        rw [hg] at hst
        simp only [hv] at hst
        split at hst
        · cases hst
        · rename_i F hF
          split at hst
          · cases hst
          · rename_i cs hcs
            split at hst
            · rw [callA_none hc] at hst
              simp only at hst
              split at hst
              · cases hst
              · rename_i q hq
                split at hst
                · have hq' : act P h o.op vals cs = some q := hq
                  obtain ⟨a1, a2, a3⟩ := ha F cs q hF hcs hq'
                  cases hst
                  refine ⟨h, _, _, hst0, a1, ?_, hh⟩
                  simp only [PState.toA]
                  congr 1
                  rw [memA_setP, a3]
                  congr 1
                  split
                  · rfl
                  · rename_i hw
                    rw [memA_setP, a2 (by intro e; rw [e] at hw; exact hw rfl)]
                · cases hst
            · cases hst
      · cases hh

def freeNs : Nat → List (Option PObj) → List Nat
  | _, [] => []
  | i, none :: m => i :: freeNs (i + 1) m
  | i, some _ :: m => freeNs (i + 1) m

def updP (ren : List Nat) : List PObj → List PObj → List PObj → List PObj
  | c :: cs, p :: pre, q :: post => (if p.toA.owned then q.ren ren else c) :: updP ren cs pre post
  | _, _, _ => []
theorem updP_toA {ren : List Nat} : ∀ (cs pre post : List PObj), (updP ren cs pre post).map PObj.toA = updOf ren (cs.map PObj.toA) (pre.map PObj.toA) (post.map PObj.toA)
  | [], _, _ => by simp [updP, updOf]
  | _ :: _, [], _ => by simp [updP, updOf]
  | _ :: _, _ :: _, [] => by simp [updP, updOf]
  | c :: cs, p :: pre, q :: post => by
    simp only [updP, List.map_cons, updOf, updP_toA cs pre post]
    congr 1
    split
    · exact PObj.ren_toA _ _
    · rfl

def objsP (mem : List (Option PObj)) (ns : List Nat) : List PObj := ns.filterMap fun n => lookP mem n
theorem fits_take {mem : List (Option PObj)} {r x : List Nat} : ∀ (ns : List Nat) (os : List PObj), takeObjs mem r ns = some os → AllP (fitsOf (r ++ x) ((objsP mem ns).map PObj.toA) (os.map PObj.toA))
  | [], os, h => by simp [takeObjs] at h; subst h; trivial
  | m :: ns, os, h => by
    simp only [takeObjs] at h
    split at h
    · rename_i o ho
      split at h
      · rename_i hs
        simp only [Option.map_eq_some_iff] at h
        obtain ⟨os', h', rfl⟩ := h
        simp only [objsP, List.filterMap_cons, ho, List.map_cons, fitsOf]
        exact ⟨Fits.of_eq (PObj.ren_unren hs).symm, fits_take ns os' h'⟩
      · cases h
    · cases h

def callE (H : Hd R) (P : Program) (ops : Array Oper) (o : Oper) (s : PState) (f : FuncId) (first args caps : List AV) (k : Foot → PState → Option R) : Option R :=
  let full := first ++ args ++ caps
  let r0 := reach s.mem 1000 (namesL full) []
  if subN r0 (namesL full) then
    match takeObjs s.mem r0 r0 with
    | some pre =>
      H f (unrenL r0 full) pre fun res post =>
        let ren := r0 ++ (freeNs 0 s.mem).take (post.length - pre.length)
        match astep P ops { call := some ⟨ren, unrenL r0 full, pre.map PObj.toA, res, post.map PObj.toA⟩ } o s.toA with
        | some st => k st.foot ⟨st.st.slots, setP (if st.foot.ws.isEmpty then s.mem else setP s.mem st.foot.rd (updP ren (objsP s.mem r0) pre post)) st.foot.al ((post.drop pre.length).map (PObj.ren ren))⟩
        | none => none
    | none => none
  else none

theorem act_call_none {h : Hint} {c : Call} {vals : List AV} {cs : List AObj} {v : Operand} (hc : c.callee = .value v) : act P h (.call c) vals cs = none := by
  cases vals <;> simp [act, hc]

theorem callE_sound {H : Hd R} (hH : HOK P H) {ops : Array Oper} {o : Oper} {c : Call} {v : Operand} {s : PState} {f : FuncId} {first args caps : List AV} {k : Foot → PState → Option R} {r : R} (ho : o.op = .call c) (hc : c.callee = .value v) (hg : guardA ops o s.toA = some true) (hv : evs s.toA o.op.operands.toList = some (.func f first caps :: args)) (h : callE H P ops o s f first args caps k = some r) : Did P ops o s k r := by
  unfold callE at h
  simp only at h
  generalize hr0 : reach s.mem 1000 (namesL (first ++ args ++ caps)) [] = r0 at h
  split at h
  · rename_i hsub
    split at h
    · rename_i pre hpre
      obtain ⟨res, post, hm, hk⟩ := hH _ _ _ _ _ h
      generalize hren : r0 ++ (freeNs 0 s.mem).take (post.length - pre.length) = ren at hk
      split at hk
      · rename_i st hst
        have hst0 := hst
        unfold astep at hst
        rw [hg] at hst
        simp only [hv] at hst
        split at hst
        · cases hst
        · rename_i F hF
          split at hst
          · cases hst
          · rename_i cs hcs
            split at hst
            · simp only [ho, act_call_none hc] at hst
              split at hst
              · cases hst
              · rename_i q hq
                have hq2 : callA { call := some ⟨ren, unrenL r0 (first ++ args ++ caps), pre.map PObj.toA, res, post.map PObj.toA⟩ } P (.call c) (.func f first caps :: args) cs = some q := by
                  split at hq
                  · rename_i q' hq'; cases hq; exact hq'
                  · cases hq
                split at hst
                · simp only [callA, hc] at hq2
                  split at hq2
                  · rename_i hcond
                    simp only [Bool.and_eq_true, beq_iff_eq, decide_eq_true_eq] at hcond
                    obtain ⟨⟨⟨⟨c1, c2⟩, c3⟩, c4⟩, c5⟩ := hcond
                    have hlen := (takeObjs_spec r0 pre hpre).1
                    have hrd : F.rd = r0 := by
                      rw [ho] at hF
                      simp only [foot, hc, Option.some.injEq] at hF
                      rw [← hF, ← hren]
                      simp [hlen]
                    rw [hrd] at hcs
                    have hcs' : cs = (objsP s.mem r0).map PObj.toA := objs_names _ _ hcs
                    cases hst
                    cases hq2
                    refine ⟨_, _, _, hst0, ?_, ?_, hk⟩
                    · refine ⟨?_, hm, ?_⟩
                      · rw [← hren, renL_unren _ hsub]
                      · rw [hcs', ← hren]; exact fits_take r0 pre hpre
                    · simp only [PState.toA]
                      congr 1
                      rw [memA_setP]
                      congr 1
                      · split
                        · rfl
                        · rw [memA_setP, updP_toA, hcs']
                      · simp only [List.map_map, List.map_drop, List.length_map]
                        congr 1
                        apply List.map_congr_left
                        intro x _
                        exact PObj.ren_toA _ _
                  · cases hq2
                · cases hst
            · cases hst
      · cases hk
    · cases h
  · cases h

def opE (H : Hd R) (P : Program) (ops : Array Oper) (o : Oper) (s : PState) (k : Foot → PState → Option R) : Option R :=
  match guardA ops o s.toA with
  | none => none
  | some false => k .no ⟨(s.toA.put o.dst (.tuple [])).slots, s.mem⟩
  | some true =>
    match evs s.toA o.op.operands.toList with
    | none => none
    | some vals =>
      match o.op with
      | .call c => match c.callee, vals with
        | .value _, .func f first caps :: args => callE H P ops o s f first args caps k
        | .value _, _ => none
        | _, _ => match pact P (.call c) vals s.mem with
          | some a => altE P ops o s k a
          | none => none
      | op => match pact P op vals s.mem with
        | some a => altE P ops o s k a
        | none => none

theorem opE_sound {H : Hd R} (hH : HOK P H) {ops : Array Oper} {o : Oper} {s : PState} {k : Foot → PState → Option R} {r : R} (h : opE H P ops o s k = some r) : Did P ops o s k r := by
  unfold opE at h
  split at h
  · cases h
  · rename_i hg
    refine ⟨{}, ⟨[], .no, s.toA.put o.dst (.tuple [])⟩, _, by unfold astep; rw [hg], trivial, ?_, h⟩
    simp only [PState.toA]
    cases o.dst <;> rfl
  · rename_i hg
    split at h
    · cases h
    · rename_i vals hv
      split at h
      · rename_i c ho
        split at h
        · rename_i v f first caps args hc
          exact callE_sound hH ho hc hg hv h
        · cases h
        · split at h
          · rename_i a ha
            exact altE_sound hg hv a (by rw [ho]; exact pact_sound ha) h
          · cases h
      · rename_i op ho _
        split at h
        · rename_i a ha
          exact altE_sound hg hv a (by exact pact_sound ha) h
        · cases h

def opsE (H : Hd R) (P : Program) (ops : Array Oper) : List Nat → PState → List Foot → (List Foot → PState → Option R) → Option R
  | [], s, fs, k => k fs.reverse s
  | i :: L, s, fs, k =>
    match ops[i]? with
    | none => none
    | some o => withLits (litTmps ops o) s fun s => opE H P ops o s fun F s' => opsE H P ops L s' (F :: fs) k

theorem runOps_congr {ops : Array Oper} {h h' : Nat → Hint} : ∀ (L : List Nat) (s : AState), (∀ j ∈ L, h j = h' j) → runOps P ops h L s = runOps P ops h' L s
  | [], s, _ => rfl
  | i :: L, s, hh => by
    simp only [runOps]
    rw [hh i (by simp)]
    cases ops[i]? with
    | none => rfl
    | some o =>
      simp only
      cases astep P ops (h' i) o s with
      | none => rfl
      | some st => simp only; rw [runOps_congr L st.st fun j hj => hh j (by simp [hj])]

theorem opsE_sound {H : Hd R} (hH : HOK P H) {ops : Array Oper} {k : List Foot → PState → Option R} {r : R} : ∀ (L : List Nat) (s : PState) (fs : List Foot), L.Nodup → opsE H P ops L s fs k = some r →
    ∃ (hint : Nat → Hint) (ob : List Prop) (fs' : List Foot) (s' : PState), runOps P ops hint L s.toA = some (ob, fs', s'.toA) ∧ AllP ob ∧ k (fs.reverse ++ fs') s' = some r
  | [], s, fs, _, h => ⟨fun _ => {}, [], [], s, rfl, trivial, by simpa [opsE] using h⟩
  | i :: L, s, fs, hnd, h => by
    simp only [opsE] at h
    split at h
    · cases h
    · rename_i o ho
      have h := withLits_sound _ _ h
      obtain ⟨hn, st, s1, h1, h2, h3, h4⟩ := opE_sound hH h
      obtain ⟨hnd1, hnd2⟩ := List.nodup_cons.1 hnd
      obtain ⟨hint, ob, fs', s', k1, k2, k3⟩ := opsE_sound hH L s1 _ hnd2 h4
      refine ⟨fun j => if j = i then hn else hint j, st.obl ++ ob, st.foot :: fs', s', ?_, allP_append.2 ⟨h2, k2⟩, by simpa using k3⟩
      simp only [runOps, ho, if_true, h1]
      rw [← h3, runOps_congr (h' := hint) L _ (fun j hj => by rw [if_neg]; rintro rfl; exact hnd1 hj), k1]

/-- The loop: so many rounds as there may be. -/
def iter (body : PState → (Ex → PState → Option R) → Option R) (gc : PState → Option PState) : Nat → PState → (Ex → PState → Option R) → Option R
  | 0, _, _ => none
  | n + 1, s, k => body s fun ex s' => match ex with
    | .normal => match gc s' with
      | some t => forceS t fun t => iter body gc n t k
      | none => none
    | e => k e s'

/-- The first region of a loop's body: the loop's name. -/
def headReg : Code → Option Nat
  | .region id _ _ => some id
  | .seq a b => match headReg a with | some i => some i | none => headReg b
  | .cond _ a b => match headReg a with | some i => some i | none => headReg b
  | .block _ c => headReg c
  | .loop c => headReg c
  | _ => none

/-- What a loop keeps of its slots: all, if nothing is told. -/
def keepOf (lv : Nat → Option (List Nat)) (c : Code) : Nat → Bool :=
  match headReg c with
  | some i => match lv i with
    | some l => fun n => hasN l n
    | none => fun _ => true
  | none => fun _ => true

def slotNames (keep : Nat → Bool) : Nat → List (Option AV) → List Nat
  | _, [] => []
  | i, some v :: vs => if keep i then v.names ++ slotNames keep (i + 1) vs else slotNames keep (i + 1) vs
  | i, none :: vs => slotNames keep (i + 1) vs

def gcL (K NF : Nat) (keep : Nat → Bool) (s : PState) : Option PState :=
  compact K NF (reach s.mem 1000 (List.range K ++ slotNames keep 0 s.slots) []) keep s

def code (H : Hd R) (P : Program) (lv : Nat → Option (List Nat)) (K NF m : Nat) : Code → PState → (Ex → PState → Option R) → Option R
  | .skip, s, k => k .normal s
  | .label _, s, k => k .normal s
  | .ret, s, k => k .ret s
  | .exit id, s, k => k (.exit id) s
  | .region _ ops draw, s, k => opsE H P ops (List.range ops.size) s [] fun fs s' => bcond (!draw || orderF P ops fs) (forceS s' fun s' => k .normal s') none
  | .seq x y, s, k => code H P lv K NF m x s fun ex s' => match ex with
    | .normal => code H P lv K NF m y s' k
    | e => k e s'
  | .cond c x y, s, k => match c with
    | .tmp t => match (s.slots[t]?).join with
      | some (.bool b) => bcond b (code H P lv K NF m x (s.setSlot t (.bool true)) k) (code H P lv K NF m y (s.setSlot t (.bool false)) k)
      | _ => none
    | .const (.bool b) => bcond b (code H P lv K NF m x s k) (code H P lv K NF m y s k)
    | _ => none
  | .block id x, s, k => code H P lv K NF m x s fun ex s' => match ex with
    | .exit j => k (if Nat.beq j id then .normal else .exit j) s'
    | e => k e s'
  | .loop x, s, k => match gcL K NF (keepOf lv x) s with
    | some t => forceS t fun t => iter (fun s k => code H P lv K NF m x s k) (gcL K NF (keepOf lv x)) m t k
    | none => none
  | _, _, _ => none

theorem tri_region {ops : Array Oper} {id : Nat} {draw : Bool} {hint : Nat → Hint} {s s' : AState} {ob : List Prop} {fs : List Foot} {K : Nat} (hr : runOps P ops hint (List.range ops.size) s = some (ob, fs, s')) (hob : AllP ob) (hd : (!draw || orderF P ops fs) = true) : Tri P (.region id ops draw) s .normal s' K := by
  intro w0 M E a w hR
  have hlen := runOps_length _ _ _ _ _ hr
  have runs := runs_of_runOps (LG := fun i => fs.getD i .no) _ _ _ _ _ hr hob (fun j => by
    by_cases hj : j < ops.size
    · have hj' : j < fs.length := by simpa [hlen] using hj
      simp [hj, hj', List.getD]
    · have hj' : ¬ j < fs.length := by simpa [hlen] using hj
      rw [List.getElem?_eq_none (by omega), List.getElem?_eq_none (by simp; omega)]; rfl)
  cases draw with
  | false => exact region_text runs hR fun E' a' w' hle h' => ⟨rfl, E', hle.toK, h'⟩
  | true =>
    simp only [Bool.not_true, Bool.false_or] at hd
    obtain ⟨A, d1, d2, d3⟩ := orderF_sound hd
    exact region_draw d1 d2 d3 runs hR fun E' a' w' hle h' => ⟨rfl, E', hle.toK, h'⟩

theorem iter_sound {body : PState → (Ex → PState → Option R) → Option R} {x : Code} {K NF : Nat} {keep : Nat → Bool} (hb : ∀ s k r, body s k = some r → ∃ ex s', Tri P x s.toA ex s'.toA K ∧ k ex s' = some r) {k : Ex → PState → Option R} {r : R} :
    ∀ (n : Nat) (s : PState), iter body (gcL K NF keep) n s k = some r → ∃ ex s', k ex s' = some r ∧ ∀ (w0 : World) (M : Nat → Prop) (E0 E : Env) (a : Act) (w : World), Env.leK K E0 E → Rel w0 M E s.toA a w → Code.rounds P x (fun e a' w' => e = ex.to ∧ ∃ E', Env.leK K E0 E' ∧ Rel w0 M E' s'.toA a' w') n a w
  | 0, s, h => by simp [iter] at h
  | n + 1, s, h => by
    simp only [iter] at h
    obtain ⟨ex1, s1, ht, h⟩ := hb _ _ _ h
    split at h
    · split at h
      · rename_i t hgc
        rw [forceS_eq] at h
        obtain ⟨ex, s', hk, hr⟩ := iter_sound hb n t h
        refine ⟨ex, s', hk, fun w0 M E0 E a w hle hR => ?_⟩
        rw [rounds_succ]
        refine wp_mono (ht w0 M E a w hR) ?_
        rintro e a' w' ⟨rfl, E', hle', h'⟩
        obtain ⟨ob, hren, hob⟩ := compact_ren hgc
        obtain ⟨g1, g2⟩ := h'.ren hren hob
        exact hr w0 M E0 _ a' w' (fun m p hm hE => by simp [g2 m hm, hle' m p hm (hle m p hm hE)]) g1
      · cases h
    · rename_i hne
      refine ⟨ex1, s1, h, fun w0 M E0 E a w hle hR => ?_⟩
      rw [rounds_succ]
      refine wp_mono (ht w0 M E a w hR) ?_
      rintro e a' w' ⟨rfl, E', hle', h'⟩
      cases ex1 with
      | normal => exact absurd rfl hne
      | exit id => exact ⟨rfl, E', hle.trans hle', h'⟩
      | ret => exact ⟨rfl, E', hle.trans hle', h'⟩

/-- CODE THAT IS EVALUATED RUNS SO. -/
theorem code_sound {H : Hd R} (hH : HOK P H) {lv : Nat → Option (List Nat)} {K NF m : Nat} : ∀ (c : Code) (s : PState) (k : Ex → PState → Option R) (r : R), code H P lv K NF m c s k = some r → ∃ ex s', Tri P c s.toA ex s'.toA K ∧ k ex s' = some r
  | .skip, s, k, r, h => ⟨.normal, s, fun w0 M E a w hR => wp_skip ⟨rfl, E, .refl _ _, hR⟩, h⟩
  | .label l, s, k, r, h => ⟨.normal, s, fun w0 M E a w hR => wp_label ⟨rfl, E, .refl _ _, hR⟩, h⟩
  | .ret, s, k, r, h => ⟨.ret, s, fun w0 M E a w hR => wp_ret ⟨rfl, E, .refl _ _, hR⟩, h⟩
  | .exit id, s, k, r, h => ⟨.exit id, s, fun w0 M E a w hR => wp_exit ⟨rfl, E, .refl _ _, hR⟩, h⟩
  | .region id ops draw, s, k, r, h => by
    simp only [code] at h
    obtain ⟨hint, ob, fs, s', h1, h2, h3⟩ := opsE_sound hH _ _ _ List.nodup_range h
    cases hd : (!draw || orderF P ops ([].reverse ++ fs)) with
    | true => rw [hd, forceS_eq] at h3; exact ⟨.normal, s', tri_region h1 h2 (by simpa using hd), h3⟩
    | false => rw [hd] at h3; cases h3
  | .seq x y, s, k, r, h => by
    simp only [code] at h
    obtain ⟨ex, s1, t1, h⟩ := code_sound hH x s _ r h
    split at h
    · obtain ⟨ex2, s2, t2, h⟩ := code_sound hH y s1 _ r h
      refine ⟨ex2, s2, fun w0 M E a w hR => wp_seq (wp_mono (t1 w0 M E a w hR) ?_), h⟩
      rintro e a' w' ⟨rfl, E', hle, h'⟩
      refine wp_mono (t2 w0 M E' a' w' h') ?_
      rintro e2 a2 w2 ⟨rfl, E2, hle2, h2⟩
      exact ⟨rfl, E2, hle.trans hle2, h2⟩
    · rename_i hne
      refine ⟨ex, s1, fun w0 M E a w hR => wp_seq (wp_mono (t1 w0 M E a w hR) ?_), h⟩
      rintro e a' w' ⟨rfl, E', hle, h'⟩
      cases ex with
      | normal => exact absurd rfl hne
      | exit id => exact ⟨rfl, E', hle, h'⟩
      | ret => exact ⟨rfl, E', hle, h'⟩
  | .cond c x y, s, k, r, h => by
    simp only [code] at h
    split at h
    · rename_i t
      split at h
      · rename_i b hb
        cases b with
        | true =>
          simp only [bcond] at h
          rw [setSlot_same hb] at h
          obtain ⟨ex, s1, t1, h⟩ := code_sound hH x s _ r h
          refine ⟨ex, s1, fun w0 M E a w hR => ?_, h⟩
          have := hR.ev (x := .tmp t) (v := .bool true) hb
          exact wp_cond_true (by simpa [den] using this.symm) (t1 w0 M E a w hR)
        | false =>
          simp only [bcond] at h
          rw [setSlot_same hb] at h
          obtain ⟨ex, s1, t1, h⟩ := code_sound hH y s _ r h
          refine ⟨ex, s1, fun w0 M E a w hR => ?_, h⟩
          have := hR.ev (x := .tmp t) (v := .bool false) hb
          exact wp_cond_false (by simpa [den] using this.symm) (t1 w0 M E a w hR)
      · cases h
    · rename_i b
      cases b with
      | true =>
        simp only [bcond] at h
        obtain ⟨ex, s1, t1, h⟩ := code_sound hH x s _ r h
        exact ⟨ex, s1, fun w0 M E a w hR => wp_cond_true rfl (t1 w0 M E a w hR), h⟩
      | false =>
        simp only [bcond] at h
        obtain ⟨ex, s1, t1, h⟩ := code_sound hH y s _ r h
        exact ⟨ex, s1, fun w0 M E a w hR => wp_cond_false rfl (t1 w0 M E a w hR), h⟩
    · cases h
  | .block id x, s, k, r, h => by
    simp only [code] at h
    obtain ⟨ex, s1, t1, h⟩ := code_sound hH x s _ r h
    split at h
    · rename_i j
      refine ⟨_, s1, fun w0 M E a w hR => wp_block (wp_mono (t1 w0 M E a w hR) ?_), h⟩
      rintro e a' w' ⟨rfl, E', hle, h'⟩
      simp only [Ex.to, Exit.inBlock]
      by_cases hj : j = id
      · subst hj; rw [if_pos rfl, if_pos (Nat.beq_refl j)]; exact ⟨rfl, E', hle, h'⟩
      · rw [if_neg hj, if_neg (by rw [beqT]; exact hj)]; exact ⟨rfl, E', hle, h'⟩
    · rename_i hne
      refine ⟨ex, s1, fun w0 M E a w hR => wp_block (wp_mono (t1 w0 M E a w hR) ?_), h⟩
      rintro e a' w' ⟨rfl, E', hle, h'⟩
      cases ex with
      | normal => exact ⟨rfl, E', hle, h'⟩
      | exit j => exact absurd rfl (hne j)
      | ret => exact ⟨rfl, E', hle, h'⟩
  | .loop x, s, k, r, h => by
    simp only [code] at h
    split at h
    · rename_i t hgc
      rw [forceS_eq] at h
      obtain ⟨ex, s', hk, hr⟩ := iter_sound (fun s k r hh => code_sound hH x s k r hh) _ _ h
      refine ⟨ex, s', fun w0 M E a w hR => wp_loop_rounds m ?_, hk⟩
      obtain ⟨ob, hren, hob⟩ := compact_ren hgc
      obtain ⟨g1, g2⟩ := hR.ren hren hob
      exact hr w0 M E _ a w (fun n p hn hE => by simp [g2 n hn, hE]) g1
    · cases h
  | .rangeFunc _ _ _ _, s, k, r, h => by simp [code] at h
  | .scope _, s, k, r, h => by simp [code] at h
  | .goto _, s, k, r, h => by simp [code] at h
  | .refuse _, s, k, r, h => by simp [code] at h

end Go.Proofs.YtpdhfopfjoinnaaDoor.Sx
