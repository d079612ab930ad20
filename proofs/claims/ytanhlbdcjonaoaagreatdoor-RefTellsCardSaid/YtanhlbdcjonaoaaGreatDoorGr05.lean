/- The evaluator, part D2: states are told anew, so that what is handed on is short. -/
import Derived.Test.YtanhlbdcjonaoaaGreatDoorGr04
import Derived.Laws.Externs
import Derived.Lib.Bytealg
import Derived.ChangeKeysEq
import Derived.Lib.MakeNoZero
set_option linter.unusedVariables false
namespace Go.Proofs.YtanhlbdcjonaoaaGreatDoor.Sx
open Go
variable {β : Type}

def forceN (n : Nat) (k : Nat → β) : β := match n with | 0 => k 0 | m + 1 => k (m + 1)
theorem forceN_eq (n : Nat) (k : Nat → β) : forceN n k = k n := by cases n <;> rfl
mutual
def forceV : AV → (AV → β) → β
  | .agg cs, k => forceVL cs fun cs => k (.agg cs)
  | .tuple cs, k => forceVL cs fun cs => k (.tuple cs)
  | .func f as cs, k => forceVL as fun as => forceVL cs fun cs => k (.func f as cs)
  | .iface t v, k => forceV v fun v => k (.iface t v)
  | .ptr nm off, k => forceN nm fun nm => k (.ptr nm off)
  | .slice nm off l c, k => forceN nm fun nm => k (.slice nm off l c)
  | .vec nm l, k => forceN nm fun nm => k (.vec nm l)
  | .dsl nm l, k => forceN nm fun nm => k (.dsl nm l)
  | .dptr nm l, k => forceN nm fun nm => k (.dptr nm l)
  | .gptr nm l, k => forceN nm fun nm => k (.gptr nm l)
  | .bool b, k => k (.bool b)
  | .int kd n, k => k (.int kd n)
  | .str s, k => k (.str s)
  | .nilptr, k => k .nilptr
  | .nilslice, k => k .nilslice
  | .nilfunc, k => k .nilfunc
  | .niliface, k => k .niliface
  | .bad, k => k .bad
def forceVL : List AV → (List AV → β) → β
  | [], k => k []
  | v :: vs, k => forceV v fun v => forceVL vs fun vs => k (v :: vs)
end
mutual
theorem forceV_eq : ∀ (v : AV) (k : AV → β), forceV v k = k v
  | .agg cs, k => by rw [forceV, forceVL_eq]
  | .tuple cs, k => by rw [forceV, forceVL_eq]
  | .func f as cs, k => by rw [forceV, forceVL_eq, forceVL_eq]
  | .iface t v, k => by rw [forceV, forceV_eq]
  | .ptr nm off, k => by rw [forceV, forceN_eq]
  | .slice nm off l c, k => by rw [forceV, forceN_eq]
  | .vec nm l, k => by rw [forceV, forceN_eq]
  | .dsl nm l, k => by rw [forceV, forceN_eq]
  | .dptr nm l, k => by rw [forceV, forceN_eq]
  | .gptr nm l, k => by rw [forceV, forceN_eq]
  | .bool b, k => by rw [forceV]
  | .int kd n, k => by rw [forceV]
  | .str s, k => by rw [forceV]
  | .nilptr, k => by rw [forceV]
  | .nilslice, k => by rw [forceV]
  | .nilfunc, k => by rw [forceV]
  | .niliface, k => by rw [forceV]
  | .bad, k => by rw [forceV]
theorem forceVL_eq : ∀ (vs : List AV) (k : List AV → β), forceVL vs k = k vs
  | [], k => by rw [forceVL]
  | v :: vs, k => by rw [forceVL, forceV_eq, forceVL_eq]
end
def forceO : PObj → (PObj → β) → β
  | .raw (.cells cs t), k => forceVL cs fun cs => k (.raw (.cells cs t))
  | .raw (.vec cs t sz), k => forceVL cs fun cs => k (.raw (.vec cs t sz))
  | .raw (.ro off cs), k => forceVL cs fun cs => k (.raw (.ro off cs))
  | .raw (.flat m cs), k => forceVL cs fun cs => k (.raw (.flat m cs))
  | .raw (.iter s p), k => k (.raw (.iter s p))
  | .raw (.shut cs t sz), k => forceVL cs fun cs => k (.raw (.shut cs t sz))
  | .raw .dead, k => k (.raw .dead)
  | .vecI kd l t, k => k (.vecI kd l t)
  | .arrI kd l t, k => k (.arrI kd l t)
  | .vecB l t, k => k (.vecB l t)
  | .arrB l t, k => k (.arrB l t)
  | .shutB l t, k => k (.shutB l t)
theorem forceO_eq (o : PObj) (k : PObj → β) : forceO o k = k o := by
  cases o with
  | raw o => cases o <;> simp only [forceO, forceVL_eq]
  | _ => rfl
def forceSl : List (Option AV) → (List (Option AV) → β) → β
  | [], k => k []
  | none :: vs, k => forceSl vs fun vs => k (none :: vs)
  | some v :: vs, k => forceV v fun v => forceSl vs fun vs => k (some v :: vs)
theorem forceSl_eq : ∀ (vs : List (Option AV)) (k : List (Option AV) → β), forceSl vs k = k vs
  | [], k => rfl
  | none :: vs, k => by rw [forceSl, forceSl_eq vs]
  | some v :: vs, k => by rw [forceSl, forceV_eq, forceSl_eq vs]
def forceM : List (Option PObj) → (List (Option PObj) → β) → β
  | [], k => k []
  | none :: vs, k => forceM vs fun vs => k (none :: vs)
  | some v :: vs, k => forceO v fun v => forceM vs fun vs => k (some v :: vs)
theorem forceM_eq : ∀ (vs : List (Option PObj)) (k : List (Option PObj) → β), forceM vs k = k vs
  | [], k => rfl
  | none :: vs, k => by rw [forceM, forceM_eq vs]
  | some v :: vs, k => by rw [forceM, forceO_eq, forceM_eq vs]
def forcePL : List PObj → (List PObj → β) → β
  | [], k => k []
  | v :: vs, k => forceO v fun v => forcePL vs fun vs => k (v :: vs)
theorem forcePL_eq : ∀ (vs : List PObj) (k : List PObj → β), forcePL vs k = k vs
  | [], k => rfl
  | v :: vs, k => by rw [forcePL, forceO_eq, forcePL_eq vs]
def forceS (s : PState) (k : PState → β) : β := forceSl s.slots fun sl => forceM s.mem fun m => k ⟨sl, m⟩
theorem forceS_eq (s : PState) (k : PState → β) : forceS s k = k s := by rw [forceS, forceSl_eq, forceM_eq]

end Go.Proofs.YtanhlbdcjonaoaaGreatDoor.Sx

/- The evaluator, part D3: in which order the operations of a region may come, told fast. -/
set_option linter.unusedVariables false
namespace Go.Proofs.YtanhlbdcjonaoaaGreatDoor.Sx
open Go
variable {P : Program}

def maskOf (M : List Nat) (d : List Nat) : Nat := d.foldl (fun m k => m ||| (1 <<< k) ||| M.getD k 0) 0
def ancM : List (List Nat) → List Nat → List Nat
  | [], acc => acc
  | d :: ds, acc => ancM ds (acc ++ [maskOf acc d])
/-- Each mask is what the edges and the masks of what lies ahead make. -/
def maskOK (ops : Array Oper) (M : List Nat) : Bool :=
  Nat.beq M.length ops.size && (List.range ops.size).all fun i => Nat.beq (M.getD i 0) (maskOf M (directI ops i)) && (directI ops i).all fun k => Nat.blt k i
def pairsF (ops : Array Oper) (M : List Nat) (LG : Nat → Foot) : Bool :=
  (List.range ops.size).all fun i => (List.range i).all fun k => (M.getD i 0).testBit k || indepI ops LG k i
def orderF (P : Program) (ops : Array Oper) (fs : List Foot) : Bool :=
  let M := ancM (ops.toList.map direct) []
  P.follows .mixedOrders && maskOK ops M && pairsF ops M (fun i => fs.getD i .no)

theorem maskOf_testBit (M : List Nat) (m : Nat) : ∀ (d : List Nat) (a : Nat), (d.foldl (fun m k => m ||| (1 <<< k) ||| M.getD k 0) a).testBit m = (a.testBit m || d.any fun k => decide (k = m) || (M.getD k 0).testBit m)
  | [], a => by simp
  | k :: d, a => by
    rw [List.foldl_cons, maskOf_testBit M m d, Nat.testBit_or, Nat.testBit_or, Nat.one_shiftLeft, Nat.testBit_two_pow, List.any_cons, Bool.or_assoc, Bool.or_assoc, Bool.or_assoc]

def ancL (n : Nat) (M : List Nat) : List (List Nat) := M.map fun x => (List.range n).filter fun k => x.testBit k
theorem ancL_get {n : Nat} {M : List Nat} {i : Nat} (h : i < M.length) : (ancL n M).getD i [] = (List.range n).filter fun k => (M.getD i 0).testBit k := by
  simp [ancL, List.getD, h]

theorem orderF_sound {ops : Array Oper} {fs : List Foot} (h : orderF P ops fs = true) : ∃ A, P.follows .mixedOrders = true ∧ ancOK ops A = true ∧ pairsOK ops A (fun i => fs.getD i .no) = true := by
  simp only [orderF, Bool.and_eq_true] at h
  obtain ⟨⟨h1, h2⟩, h3⟩ := h
  generalize ancM (ops.toList.map direct) [] = M at h2 h3
  simp only [maskOK, Bool.and_eq_true] at h2
  obtain ⟨hl, h2⟩ := h2
  have hl := beqT.1 hl
  refine ⟨ancL ops.size M, h1, ?_, ?_⟩
  · unfold ancOK
    refine List.all_eq_true.2 fun i hi => ?_
    have hi' : i < ops.size := List.mem_range.1 hi
    have h2i := List.all_eq_true.1 h2 i hi
    simp only [Bool.and_eq_true] at h2i
    obtain ⟨g1, g2⟩ := h2i
    have g1 := beqT.1 g1
    simp only [Bool.and_eq_true]
    refine ⟨List.all_eq_true.2 fun k hk => ?_, List.all_eq_true.2 fun m hm => ?_⟩
    · have := bltT.1 (List.all_eq_true.1 g2 k hk); simpa using this
    · rw [ancL_get (by omega), List.mem_filter, List.mem_range] at hm
      obtain ⟨hm1, hm2⟩ := hm
      rw [g1, maskOf, maskOf_testBit, Nat.zero_testBit, Bool.false_or, List.any_eq_true] at hm2
      obtain ⟨k, hk, hk2⟩ := hm2
      simp only [Bool.or_eq_true, decide_eq_true_eq] at hk2 ⊢
      rcases hk2 with rfl | hk2
      · exact .inl (by simpa using hk)
      · refine .inr (List.any_eq_true.2 ⟨k, hk, ?_⟩)
        have hki := bltT.1 (List.all_eq_true.1 g2 k hk)
        rw [ancL_get (by omega), List.contains_iff_mem, List.mem_filter, List.mem_range]
        exact ⟨hm1, hk2⟩
  · unfold pairsOK
    unfold pairsF at h3
    refine List.all_eq_true.2 fun i hi => List.all_eq_true.2 fun k hk => ?_
    have := List.all_eq_true.1 (List.all_eq_true.1 h3 i hi) k hk
    have hi' : i < ops.size := List.mem_range.1 hi
    have hk' : k < i := List.mem_range.1 hk
    rw [ancL_get (by omega)]
    simp only [Bool.or_eq_true] at this ⊢
    rcases this with h | h
    · refine .inl ?_
      rw [List.contains_iff_mem, List.mem_filter, List.mem_range]
      exact ⟨by omega, h⟩
    · exact .inr h

end Go.Proofs.YtanhlbdcjonaoaaGreatDoor.Sx

/- The evaluator, part E: regions and code, with what follows handed on. -/
set_option linter.unusedVariables false
set_option linter.unusedSimpArgs false
namespace Go.Proofs.YtanhlbdcjonaoaaGreatDoor.Sx
open Go
variable {P : Program} {R : Type}

/-- How calls are answered. -/
abbrev Hd (R : Type) := FuncId → List AV → List PObj → (AV → List PObj → Option R) → Option R
def HOK (P : Program) (H : Hd R) : Prop := ∀ f args pre k r, H f args pre k = some r → ∃ res post, Meets P f args (pre.map PObj.toA) res (post.map PObj.toA) ∧ k res post = some r

def setP (mem : List (Option PObj)) : List Nat → List PObj → List (Option PObj)
  | n :: ns, o :: os => setP (mem.set n (some o)) ns os
  | _, _ => mem
theorem memA_setP : ∀ (ns : List Nat) (os : List PObj) (mem : List (Option PObj)), memA (setP mem ns os) = setMem (memA mem) ns (os.map PObj.toA)
  | [], os, mem => by simp [setP, setMem]
  | n :: ns, [], mem => by simp [setP, setMem]
  | n :: ns, o :: os, mem => by
    simp only [setP, List.map_cons, setMem]
    rw [memA_setP ns os]
    congr 1
    simp [memA, List.map_set]

/-- Slots whose truth must be told ahead of an operation. -/
def litTmps (ops : Array Oper) (o : Oper) : List Nat :=
  (match o.guard with
    | some (j, _) => match (ops[j]?).bind (·.dst) with | some d => [d] | none => []
    | none => []) ++
  (match o.op with
    | .pick (.tmp t) _ _ => [t]
    | _ => [])

def PState.setSlot (s : PState) (d : Nat) (v : AV) : PState := ⟨s.slots.set d (some v), s.mem⟩
def withLits : List Nat → PState → (PState → Option R) → Option R
  | [], s, k => k s
  | d :: ds, s, k => match (s.slots[d]?).join with
    | some (.bool b) => bcond b (withLits ds (s.setSlot d (.bool true)) k) (withLits ds (s.setSlot d (.bool false)) k)
    | _ => withLits ds s k

theorem setSlot_same {s : PState} {d : Nat} {v : AV} (h : (s.slots[d]?).join = some v) : s.setSlot d v = s := by
  simp only [Option.join_eq_some_iff] at h
  cases s with
  | mk sl m =>
    simp only [PState.setSlot, PState.mk.injEq, and_true]
    obtain ⟨h1, h2⟩ := List.getElem?_eq_some_iff.1 h
    rw [← h2, List.set_getElem_self]
theorem withLits_sound {k : PState → Option R} {r : R} : ∀ (ds : List Nat) (s : PState), withLits ds s k = some r → k s = some r
  | [], s, h => h
  | d :: ds, s, h => by
    simp only [withLits] at h
    split at h
    · rename_i b hb
      cases b with
      | true => simp only [bcond] at h; rw [setSlot_same hb] at h; exact withLits_sound ds s h
      | false => simp only [bcond] at h; rw [setSlot_same hb] at h; exact withLits_sound ds s h
    · exact withLits_sound ds s h

def altE (P : Program) (ops : Array Oper) (o : Oper) (s : PState) (k : Foot → PState → Option R) : Alt → Option R
  | .ok chk h upd new => bcond chk (match astep P ops h o s.toA with
      | some st => k st.foot ⟨st.st.slots, setP (if st.foot.ws.isEmpty then s.mem else setP s.mem st.foot.rd upd) st.foot.al new⟩
      | none => none) none
  | .br b x y => bcond b (altE P ops o s k x) (altE P ops o s k y)

/-- What a step did. -/
def Did (P : Program) (ops : Array Oper) (o : Oper) (s : PState) (k : Foot → PState → Option R) (r : R) : Prop :=
  ∃ h st s', astep P ops h o s.toA = some st ∧ AllP st.obl ∧ s'.toA = st.st ∧ k st.foot s' = some r

theorem callA_none {h : Hint} {o : Op} {vals : List AV} {cs : List AObj} (hc : h.call = none) : callA h P o vals cs = none := by
  unfold callA; split
  · rename_i e; rw [hc] at e; cases e
  · rfl

theorem altE_sound {ops : Array Oper} {o : Oper} {s : PState} {k : Foot → PState → Option R} {r : R} {vals : List AV} (hg : guardA ops o s.toA = some true) (hv : evs s.toA o.op.operands.toList = some vals) :
    ∀ (a : Alt), AltOK P o.op vals s.mem a → altE P ops o s k a = some r → Did P ops o s k r
  | .br b x y, ha, h => by
    cases b with
    | true => exact altE_sound hg hv x (ha.1 rfl) h
    | false => exact altE_sound hg hv y (ha.2 rfl) h
  | .ok chk h upd new, ha, hh => by
    cases chk with
    | false => simp [altE, bcond] at hh
    | true =>
      simp only [altE, bcond] at hh
      split at hh
      · rename_i st hst
        obtain ⟨hc, ha⟩ := ha rfl
        have hst0 := hst
        unfold astep at hst
        rw [hg] at hst
        simp only [hv] at hst
        split at hst
        · cases hst
        · rename_i F hF
          split at hst
          · cases hst
          · rename_i cs hcs
            split at hst
            · rw [callA_none hc] at hst
              simp only at hst
              split at hst
              · cases hst
              · rename_i q hq
                split at hst
                · have hq' : act P h o.op vals cs = some q := hq
                  obtain ⟨a1, a2, a3⟩ := ha F cs q hF hcs hq'
                  cases hst
                  refine ⟨h, _, _, hst0, a1, ?_, hh⟩
                  simp only [PState.toA]
                  congr 1
                  rw [memA_setP, a3]
                  congr 1
                  split
                  · rfl
                  · rename_i hw
                    rw [memA_setP, a2 (by intro e; rw [e] at hw; exact hw rfl)]
                · cases hst
            · cases hst
      · cases hh

def freeNs : Nat → List (Option PObj) → List Nat
  | _, [] => []
  | i, none :: m => i :: freeNs (i + 1) m
  | i, some _ :: m => freeNs (i + 1) m

def updP (ren : List Nat) : List PObj → List PObj → List PObj → List PObj
  | c :: cs, p :: pre, q :: post => (if p.toA.owned then q.ren ren else c) :: updP ren cs pre post
  | _, _, _ => []
theorem updP_toA {ren : List Nat} : ∀ (cs pre post : List PObj), (updP ren cs pre post).map PObj.toA = updOf ren (cs.map PObj.toA) (pre.map PObj.toA) (post.map PObj.toA)
  | [], _, _ => by simp [updP, updOf]
  | _ :: _, [], _ => by simp [updP, updOf]
  | _ :: _, _ :: _, [] => by simp [updP, updOf]
  | c :: cs, p :: pre, q :: post => by
    simp only [updP, List.map_cons, updOf, updP_toA cs pre post]
    congr 1
    split
    · exact PObj.ren_toA _ _
    · rfl

def objsP (mem : List (Option PObj)) (ns : List Nat) : List PObj := ns.filterMap fun n => lookP mem n
theorem fits_take {mem : List (Option PObj)} {r x : List Nat} : ∀ (ns : List Nat) (os : List PObj), takeObjs mem r ns = some os → AllP (fitsOf (r ++ x) ((objsP mem ns).map PObj.toA) (os.map PObj.toA))
  | [], os, h => by simp [takeObjs] at h; subst h; trivial
  | m :: ns, os, h => by
    simp only [takeObjs] at h
    split at h
    · rename_i o ho
      split at h
      · rename_i hs
        simp only [Option.map_eq_some_iff] at h
        obtain ⟨os', h', rfl⟩ := h
        simp only [objsP, List.filterMap_cons, ho, List.map_cons, fitsOf]
        exact ⟨Fits.of_eq (PObj.ren_unren hs).symm, fits_take ns os' h'⟩
      · cases h
    · cases h

def callE (H : Hd R) (P : Program) (ops : Array Oper) (o : Oper) (s : PState) (f : FuncId) (first args caps : List AV) (k : Foot → PState → Option R) : Option R :=
  let full := first ++ args ++ caps
  let r0 := reach s.mem 1000 (namesL full) []
  if subN r0 (namesL full) then
    match takeObjs s.mem r0 r0 with
    | some pre =>
      H f (unrenL r0 full) pre fun res post =>
        let ren := r0 ++ (freeNs 0 s.mem).take (post.length - pre.length)
        match astep P ops { call := some ⟨ren, unrenL r0 full, pre.map PObj.toA, res, post.map PObj.toA⟩ } o s.toA with
        | some st => k st.foot ⟨st.st.slots, setP (if st.foot.ws.isEmpty then s.mem else setP s.mem st.foot.rd (updP ren (objsP s.mem r0) pre post)) st.foot.al ((post.drop pre.length).map (PObj.ren ren))⟩
        | none => none
    | none => none
  else none

theorem act_call_none {h : Hint} {c : Call} {vals : List AV} {cs : List AObj} {v : Operand} (hc : c.callee = .value v) : act P h (.call c) vals cs = none := by
  cases vals <;> simp [act, hc]

theorem callE_sound {H : Hd R} (hH : HOK P H) {ops : Array Oper} {o : Oper} {c : Call} {v : Operand} {s : PState} {f : FuncId} {first args caps : List AV} {k : Foot → PState → Option R} {r : R} (ho : o.op = .call c) (hc : c.callee = .value v) (hg : guardA ops o s.toA = some true) (hv : evs s.toA o.op.operands.toList = some (.func f first caps :: args)) (h : callE H P ops o s f first args caps k = some r) : Did P ops o s k r := by
  unfold callE at h
  simp only at h
  generalize hr0 : reach s.mem 1000 (namesL (first ++ args ++ caps)) [] = r0 at h
  split at h
  · rename_i hsub
    split at h
    · rename_i pre hpre
      obtain ⟨res, post, hm, hk⟩ := hH _ _ _ _ _ h
      generalize hren : r0 ++ (freeNs 0 s.mem).take (post.length - pre.length) = ren at hk
      split at hk
      · rename_i st hst
        have hst0 := hst
        unfold astep at hst
        rw [hg] at hst
        simp only [hv] at hst
        split at hst
        · cases hst
        · rename_i F hF
          split at hst
          · cases hst
          · rename_i cs hcs
            split at hst
            · simp only [ho, act_call_none hc] at hst
              split at hst
              · cases hst
              · rename_i q hq
                have hq2 : callA { call := some ⟨ren, unrenL r0 (first ++ args ++ caps), pre.map PObj.toA, res, post.map PObj.toA⟩ } P (.call c) (.func f first caps :: args) cs = some q := by
                  split at hq
                  · rename_i q' hq'; cases hq; exact hq'
                  · cases hq
                split at hst
                · simp only [callA, hc] at hq2
                  split at hq2
                  · rename_i hcond
                    simp only [Bool.and_eq_true, beq_iff_eq, decide_eq_true_eq] at hcond
                    obtain ⟨⟨⟨⟨c1, c2⟩, c3⟩, c4⟩, c5⟩ := hcond
                    have hlen := (takeObjs_spec r0 pre hpre).1
                    have hrd : F.rd = r0 := by
                      rw [ho] at hF
                      simp only [foot, hc, Option.some.injEq] at hF
                      rw [← hF, ← hren]
                      simp [hlen]
                    rw [hrd] at hcs
                    have hcs' : cs = (objsP s.mem r0).map PObj.toA := objs_names _ _ hcs
                    cases hst
                    cases hq2
                    refine ⟨_, _, _, hst0, ?_, ?_, hk⟩
                    · refine ⟨?_, hm, ?_⟩
                      · rw [← hren, renL_unren _ hsub]
                      · rw [hcs', ← hren]; exact fits_take r0 pre hpre
                    · simp only [PState.toA]
                      congr 1
                      rw [memA_setP]
                      congr 1
                      · split
                        · rfl
                        · rw [memA_setP, updP_toA, hcs']
                      · simp only [List.map_map, List.map_drop, List.length_map]
                        congr 1
                        apply List.map_congr_left
                        intro x _
                        exact PObj.ren_toA _ _
                  · cases hq2
                · cases hst
            · cases hst
      · cases hk
    · cases h
  · cases h

def opE (H : Hd R) (P : Program) (ops : Array Oper) (o : Oper) (s : PState) (k : Foot → PState → Option R) : Option R :=
  match guardA ops o s.toA with
  | none => none
  | some false => k .no ⟨(s.toA.put o.dst (.tuple [])).slots, s.mem⟩
  | some true =>
    match evs s.toA o.op.operands.toList with
    | none => none
    | some vals =>
      match o.op with
      | .call c => match c.callee, vals with
        | .value _, .func f first caps :: args => callE H P ops o s f first args caps k
        | .value _, _ => none
        | _, _ => match pact P (.call c) vals s.mem with
          | some a => altE P ops o s k a
          | none => none
      | op => match pact P op vals s.mem with
        | some a => altE P ops o s k a
        | none => none

theorem opE_sound {H : Hd R} (hH : HOK P H) {ops : Array Oper} {o : Oper} {s : PState} {k : Foot → PState → Option R} {r : R} (h : opE H P ops o s k = some r) : Did P ops o s k r := by
  unfold opE at h
  split at h
  · cases h
  · rename_i hg
    refine ⟨{}, ⟨[], .no, s.toA.put o.dst (.tuple [])⟩, _, by unfold astep; rw [hg], trivial, ?_, h⟩
    simp only [PState.toA]
    cases o.dst <;> rfl
  · rename_i hg
    split at h
    · cases h
    · rename_i vals hv
      split at h
      · rename_i c ho
        split at h
        · rename_i v f first caps args hc
          exact callE_sound hH ho hc hg hv h
        · cases h
        · split at h
          · rename_i a ha
            exact altE_sound hg hv a (by rw [ho]; exact pact_sound ha) h
          · cases h
      · rename_i op ho _
        split at h
        · rename_i a ha
          exact altE_sound hg hv a (by exact pact_sound ha) h
        · cases h

def opsE (H : Hd R) (P : Program) (ops : Array Oper) : List Nat → PState → List Foot → (List Foot → PState → Option R) → Option R
  | [], s, fs, k => k fs.reverse s
  | i :: L, s, fs, k =>
    match ops[i]? with
    | none => none
    | some o => withLits (litTmps ops o) s fun s => opE H P ops o s fun F s' => opsE H P ops L s' (F :: fs) k

theorem runOps_congr {ops : Array Oper} {h h' : Nat → Hint} : ∀ (L : List Nat) (s : AState), (∀ j ∈ L, h j = h' j) → runOps P ops h L s = runOps P ops h' L s
  | [], s, _ => rfl
  | i :: L, s, hh => by
    simp only [runOps]
    rw [hh i (by simp)]
    cases ops[i]? with
    | none => rfl
    | some o =>
      simp only
      cases astep P ops (h' i) o s with
      | none => rfl
      | some st => simp only; rw [runOps_congr L st.st fun j hj => hh j (by simp [hj])]

theorem opsE_sound {H : Hd R} (hH : HOK P H) {ops : Array Oper} {k : List Foot → PState → Option R} {r : R} : ∀ (L : List Nat) (s : PState) (fs : List Foot), L.Nodup → opsE H P ops L s fs k = some r →
    ∃ (hint : Nat → Hint) (ob : List Prop) (fs' : List Foot) (s' : PState), runOps P ops hint L s.toA = some (ob, fs', s'.toA) ∧ AllP ob ∧ k (fs.reverse ++ fs') s' = some r
  | [], s, fs, _, h => ⟨fun _ => {}, [], [], s, rfl, trivial, by simpa [opsE] using h⟩
  | i :: L, s, fs, hnd, h => by
    simp only [opsE] at h
    split at h
    · cases h
    · rename_i o ho
      have h := withLits_sound _ _ h
      obtain ⟨hn, st, s1, h1, h2, h3, h4⟩ := opE_sound hH h
      obtain ⟨hnd1, hnd2⟩ := List.nodup_cons.1 hnd
      obtain ⟨hint, ob, fs', s', k1, k2, k3⟩ := opsE_sound hH L s1 _ hnd2 h4
      refine ⟨fun j => if j = i then hn else hint j, st.obl ++ ob, st.foot :: fs', s', ?_, allP_append.2 ⟨h2, k2⟩, by simpa using k3⟩
      simp only [runOps, ho, if_true, h1]
      rw [← h3, runOps_congr (h' := hint) L _ (fun j hj => by rw [if_neg]; rintro rfl; exact hnd1 hj), k1]

/-- The loop: so many rounds as there may be. -/
def iter (body : PState → (Ex → PState → Option R) → Option R) (gc : PState → Option PState) : Nat → PState → (Ex → PState → Option R) → Option R
  | 0, _, _ => none
  | n + 1, s, k => body s fun ex s' => match ex with
    | .normal => match gc s' with
      | some t => forceS t fun t => iter body gc n t k
      | none => none
    | e => k e s'

/-- The first region of a loop's body: the loop's name. -/
def headReg : Code → Option Nat
  | .region id _ _ => some id
  | .seq a b => match headReg a with | some i => some i | none => headReg b
  | .cond _ a b => match headReg a with | some i => some i | none => headReg b
  | .block _ c => headReg c
  | .loop c => headReg c
  | _ => none

/-- What a loop comes to: how it is left, in what state: by conditions. -/
inductive LAns where
  | out (ex : Ex) (s : PState)
  | fail
  | br (b : Bool) (x y : LAns)
def LAns.run (k : Ex → PState → Option R) : LAns → Option R
  | .out ex s => forceS s fun s => k ex s
  | .fail => none
  | .br b x y => bcond b (x.run k) (y.run k)
def LAns.chk (b : Bool) (x : LAns) : LAns := .br b x .fail
def LAnsOK (P : Program) (x : Code) (K : Nat) (t : PState) : LAns → Prop
  | .out ex s => Tri P (.loop x) t.toA ex s.toA K
  | .fail => True
  | .br b u v => (b = true → LAnsOK P x K t u) ∧ (b = false → LAnsOK P x K t v)
theorem LAns.sound {x : Code} {K : Nat} {t : PState} {k : Ex → PState → Option R} {r : R} : ∀ (a : LAns), LAnsOK P x K t a → a.run k = some r → ∃ ex s, Tri P (.loop x) t.toA ex s.toA K ∧ k ex s = some r
  | .out ex s, h, e => ⟨ex, s, h, by simpa only [LAns.run, forceS_eq] using e⟩
  | .fail, h, e => by cases e
  | .br b u v, h, e => by
    cases b with
    | true => exact LAns.sound u (h.1 rfl) e
    | false => exact LAns.sound v (h.2 rfl) e
/-- Of a function's loops, by their first regions: the slots that they keep, and what they come to. -/
structure Lv where
  keep : Nat → Option (List Nat) := fun _ => none
  ent : Nat → Option (Nat → PState → LAns) := fun _ => none
/-- The loops of a piece of code: their bodies. -/
def loopBodies : Code → List Code
  | .seq a b => loopBodies a ++ loopBodies b
  | .cond _ a b => loopBodies a ++ loopBodies b
  | .block _ c => loopBodies c
  | .loop c => c :: loopBodies c
  | _ => []
def entOf (lv : Lv) (c : Code) : Option (Nat → PState → LAns) :=
  match headReg c with
  | some i => lv.ent i
  | none => none
def LoopsOK (P : Program) (lv : Lv) (K : Nat) (c : Code) : Prop := ∀ x ∈ loopBodies c, ∀ id e, headReg x = some id → lv.ent id = some e → ∀ t, LAnsOK P x K t (e K t)

/-- What a loop keeps of its slots: all, if nothing is told. -/
def keepOf (lv : Lv) (c : Code) : Nat → Bool :=
  match headReg c with
  | some i => match lv.keep i with
    | some l => fun n => hasN l n
    | none => fun _ => true
  | none => fun _ => true

def slotNames (keep : Nat → Bool) : Nat → List (Option AV) → List Nat
  | _, [] => []
  | i, some v :: vs => if keep i then v.names ++ slotNames keep (i + 1) vs else slotNames keep (i + 1) vs
  | i, none :: vs => slotNames keep (i + 1) vs

def gcL (K NF : Nat) (keep : Nat → Bool) (s : PState) : Option PState :=
  compact K NF (reach s.mem 1000 (List.range K ++ slotNames keep 0 s.slots) []) keep s

def code (H : Hd R) (P : Program) (lv : Lv) (K NF m : Nat) : Code → PState → (Ex → PState → Option R) → Option R
  | .skip, s, k => k .normal s
  | .label _, s, k => k .normal s
  | .ret, s, k => k .ret s
  | .exit id, s, k => k (.exit id) s
  | .region _ ops draw, s, k => opsE H P ops (List.range ops.size) s [] fun fs s' => bcond (!draw || orderF P ops fs) (forceS s' fun s' => k .normal s') none
  | .seq x y, s, k => code H P lv K NF m x s fun ex s' => match ex with
    | .normal => code H P lv K NF m y s' k
    | e => k e s'
  | .cond c x y, s, k => match c with
    | .tmp t => match (s.slots[t]?).join with
      | some (.bool b) => bcond b (code H P lv K NF m x (s.setSlot t (.bool true)) k) (code H P lv K NF m y (s.setSlot t (.bool false)) k)
      | _ => none
    | .const (.bool b) => bcond b (code H P lv K NF m x s k) (code H P lv K NF m y s k)
    | _ => none
  | .block id x, s, k => code H P lv K NF m x s fun ex s' => match ex with
    | .exit j => k (if Nat.beq j id then .normal else .exit j) s'
    | e => k e s'
  | .loop x, s, k => match gcL K NF (keepOf lv x) s with
    | some t => forceS t fun t => match entOf lv x with
      | some e => (e K t).run k
      | none => iter (fun s k => code H P lv K NF m x s k) (gcL K NF (keepOf lv x)) m t k
    | none => none
  | _, _, _ => none

theorem tri_region {ops : Array Oper} {id : Nat} {draw : Bool} {hint : Nat → Hint} {s s' : AState} {ob : List Prop} {fs : List Foot} {K : Nat} (hr : runOps P ops hint (List.range ops.size) s = some (ob, fs, s')) (hob : AllP ob) (hd : (!draw || orderF P ops fs) = true) : Tri P (.region id ops draw) s .normal s' K := by
  intro w0 M E a w hR
  have hlen := runOps_length _ _ _ _ _ hr
  have runs := runs_of_runOps (LG := fun i => fs.getD i .no) _ _ _ _ _ hr hob (fun j => by
    by_cases hj : j < ops.size
    · have hj' : j < fs.length := by simpa [hlen] using hj
      simp [hj, hj', List.getD]
    · have hj' : ¬ j < fs.length := by simpa [hlen] using hj
      rw [List.getElem?_eq_none (by omega), List.getElem?_eq_none (by simp; omega)]; rfl)
  cases draw with
  | false => exact region_text runs hR fun E' a' w' hle h' => ⟨rfl, E', hle.toK, h'⟩
  | true =>
    simp only [Bool.not_true, Bool.false_or] at hd
    obtain ⟨A, d1, d2, d3⟩ := orderF_sound hd
    exact region_draw d1 d2 d3 runs hR fun E' a' w' hle h' => ⟨rfl, E', hle.toK, h'⟩

theorem iter_sound {body : PState → (Ex → PState → Option R) → Option R} {x : Code} {K NF : Nat} {keep : Nat → Bool} (hb : ∀ s k r, body s k = some r → ∃ ex s', Tri P x s.toA ex s'.toA K ∧ k ex s' = some r) {k : Ex → PState → Option R} {r : R} :
    ∀ (n : Nat) (s : PState), iter body (gcL K NF keep) n s k = some r → ∃ ex s', k ex s' = some r ∧ ∀ (w0 : World) (M : Nat → Prop) (E0 E : Env) (a : Act) (w : World), Env.leK K E0 E → Rel w0 M E s.toA a w → Code.rounds P x (fun e a' w' => e = ex.to ∧ ∃ E', Env.leK K E0 E' ∧ Rel w0 M E' s'.toA a' w') n a w
  | 0, s, h => by simp [iter] at h
  | n + 1, s, h => by
    simp only [iter] at h
    obtain ⟨ex1, s1, ht, h⟩ := hb _ _ _ h
    split at h
    · split at h
      · rename_i t hgc
        rw [forceS_eq] at h
        obtain ⟨ex, s', hk, hr⟩ := iter_sound hb n t h
        refine ⟨ex, s', hk, fun w0 M E0 E a w hle hR => ?_⟩
        rw [rounds_succ]
        refine wp_mono (ht w0 M E a w hR) ?_
        rintro e a' w' ⟨rfl, E', hle', h'⟩
        obtain ⟨ob, hren, hob⟩ := compact_ren hgc
        obtain ⟨g1, g2⟩ := h'.ren hren hob
        exact hr w0 M E0 _ a' w' (fun m p hm hE => by simp [g2 m hm, hle' m p hm (hle m p hm hE)]) g1
      · cases h
    · rename_i hne
      refine ⟨ex1, s1, h, fun w0 M E0 E a w hle hR => ?_⟩
      rw [rounds_succ]
      refine wp_mono (ht w0 M E a w hR) ?_
      rintro e a' w' ⟨rfl, E', hle', h'⟩
      cases ex1 with
      | normal => exact absurd rfl hne
      | exit id => exact ⟨rfl, E', hle.trans hle', h'⟩
      | ret => exact ⟨rfl, E', hle.trans hle', h'⟩

/-- CODE THAT IS EVALUATED RUNS SO. -/
theorem code_sound {H : Hd R} (hH : HOK P H) {lv : Lv} {K NF m : Nat} : ∀ (c : Code) (hl : LoopsOK P lv K c) (s : PState) (k : Ex → PState → Option R) (r : R), code H P lv K NF m c s k = some r → ∃ ex s', Tri P c s.toA ex s'.toA K ∧ k ex s' = some r
  | .skip, hl, s, k, r, h => ⟨.normal, s, fun w0 M E a w hR => wp_skip ⟨rfl, E, .refl _ _, hR⟩, h⟩
  | .label l, hl, s, k, r, h => ⟨.normal, s, fun w0 M E a w hR => wp_label ⟨rfl, E, .refl _ _, hR⟩, h⟩
  | .ret, hl, s, k, r, h => ⟨.ret, s, fun w0 M E a w hR => wp_ret ⟨rfl, E, .refl _ _, hR⟩, h⟩
  | .exit id, hl, s, k, r, h => ⟨.exit id, s, fun w0 M E a w hR => wp_exit ⟨rfl, E, .refl _ _, hR⟩, h⟩
  | .region id ops draw, hl, s, k, r, h => by
    simp only [code] at h
    obtain ⟨hint, ob, fs, s', h1, h2, h3⟩ := opsE_sound hH _ _ _ List.nodup_range h
    cases hd : (!draw || orderF P ops ([].reverse ++ fs)) with
    | true => rw [hd, forceS_eq] at h3; exact ⟨.normal, s', tri_region h1 h2 (by simpa using hd), h3⟩
    | false => rw [hd] at h3; cases h3
  | .seq x y, hl, s, k, r, h => by
    have hlx : LoopsOK P lv K x := fun z hz => hl z (List.mem_append_left _ hz)
    have hly : LoopsOK P lv K y := fun z hz => hl z (List.mem_append_right _ hz)
    simp only [code] at h
    obtain ⟨ex, s1, t1, h⟩ := code_sound hH x (hlx) s _ r h
    split at h
    · obtain ⟨ex2, s2, t2, h⟩ := code_sound hH y (hly) s1 _ r h
      refine ⟨ex2, s2, fun w0 M E a w hR => wp_seq (wp_mono (t1 w0 M E a w hR) ?_), h⟩
      rintro e a' w' ⟨rfl, E', hle, h'⟩
      refine wp_mono (t2 w0 M E' a' w' h') ?_
      rintro e2 a2 w2 ⟨rfl, E2, hle2, h2⟩
      exact ⟨rfl, E2, hle.trans hle2, h2⟩
    · rename_i hne
      refine ⟨ex, s1, fun w0 M E a w hR => wp_seq (wp_mono (t1 w0 M E a w hR) ?_), h⟩
      rintro e a' w' ⟨rfl, E', hle, h'⟩
      cases ex with
      | normal => exact absurd rfl hne
      | exit id => exact ⟨rfl, E', hle, h'⟩
      | ret => exact ⟨rfl, E', hle, h'⟩
  | .cond c x y, hl, s, k, r, h => by
    have hlx : LoopsOK P lv K x := fun z hz => hl z (List.mem_append_left _ hz)
    have hly : LoopsOK P lv K y := fun z hz => hl z (List.mem_append_right _ hz)
    simp only [code] at h
    split at h
    · rename_i t
      split at h
      · rename_i b hb
        cases b with
        | true =>
          simp only [bcond] at h
          rw [setSlot_same hb] at h
          obtain ⟨ex, s1, t1, h⟩ := code_sound hH x (hlx) s _ r h
          refine ⟨ex, s1, fun w0 M E a w hR => ?_, h⟩
          have := hR.ev (x := .tmp t) (v := .bool true) hb
          exact wp_cond_true (by simpa [den] using this.symm) (t1 w0 M E a w hR)
        | false =>
          simp only [bcond] at h
          rw [setSlot_same hb] at h
          obtain ⟨ex, s1, t1, h⟩ := code_sound hH y (hly) s _ r h
          refine ⟨ex, s1, fun w0 M E a w hR => ?_, h⟩
          have := hR.ev (x := .tmp t) (v := .bool false) hb
          exact wp_cond_false (by simpa [den] using this.symm) (t1 w0 M E a w hR)
      · cases h
    · rename_i b
      cases b with
      | true =>
        simp only [bcond] at h
        obtain ⟨ex, s1, t1, h⟩ := code_sound hH x (hlx) s _ r h
        exact ⟨ex, s1, fun w0 M E a w hR => wp_cond_true rfl (t1 w0 M E a w hR), h⟩
      | false =>
        simp only [bcond] at h
        obtain ⟨ex, s1, t1, h⟩ := code_sound hH y (hly) s _ r h
        exact ⟨ex, s1, fun w0 M E a w hR => wp_cond_false rfl (t1 w0 M E a w hR), h⟩
    · cases h
  | .block id x, hl, s, k, r, h => by
    have hlx : LoopsOK P lv K x := hl
    simp only [code] at h
    obtain ⟨ex, s1, t1, h⟩ := code_sound hH x (hlx) s _ r h
    split at h
    · rename_i j
      refine ⟨_, s1, fun w0 M E a w hR => wp_block (wp_mono (t1 w0 M E a w hR) ?_), h⟩
      rintro e a' w' ⟨rfl, E', hle, h'⟩
      simp only [Ex.to, Exit.inBlock]
      by_cases hj : j = id
      · subst hj; rw [if_pos rfl, if_pos (Nat.beq_refl j)]; exact ⟨rfl, E', hle, h'⟩
      · rw [if_neg hj, if_neg (by rw [beqT]; exact hj)]; exact ⟨rfl, E', hle, h'⟩
    · rename_i hne
      refine ⟨ex, s1, fun w0 M E a w hR => wp_block (wp_mono (t1 w0 M E a w hR) ?_), h⟩
      rintro e a' w' ⟨rfl, E', hle, h'⟩
      cases ex with
      | normal => exact ⟨rfl, E', hle, h'⟩
      | exit j => exact absurd rfl (hne j)
      | ret => exact ⟨rfl, E', hle, h'⟩
  | .loop x, hl, s, k, r, h => by
    simp only [code] at h
    split at h
    · rename_i t hgc
      rw [forceS_eq] at h
      split at h
      · rename_i e he
        have hent : ∃ id, headReg x = some id ∧ lv.ent id = some e := by
          unfold entOf at he
          split at he
          · rename_i i hi; exact ⟨i, hi, he⟩
          · cases he
        obtain ⟨id, h1, h2⟩ := hent
        obtain ⟨ex, s', ht, hk⟩ := LAns.sound _ (hl x (List.mem_cons_self ..) id e h1 h2 t) h
        refine ⟨ex, s', fun w0 M E a w hR => ?_, hk⟩
        obtain ⟨ob, hren, hob⟩ := compact_ren hgc
        obtain ⟨g1, g2⟩ := hR.ren hren hob
        refine wp_mono (ht w0 M _ a w g1) ?_
        rintro e' a' w' ⟨rfl, E', hle, h'⟩
        exact ⟨rfl, E', fun n p hn hE => hle n p hn (by simp [g2 n hn, hE]), h'⟩
      obtain ⟨ex, s', hk, hr⟩ := iter_sound (fun s k r hh => code_sound hH x (fun z hz => hl z (List.mem_cons_of_mem _ hz)) s k r hh) _ _ h
      refine ⟨ex, s', fun w0 M E a w hR => wp_loop_rounds m ?_, hk⟩
      obtain ⟨ob, hren, hob⟩ := compact_ren hgc
      obtain ⟨g1, g2⟩ := hR.ren hren hob
      exact hr w0 M E _ a w (fun n p hn hE => by simp [g2 n hn, hE]) g1
    · cases h
  | .rangeFunc _ _ _ _, hl, s, k, r, h => by simp [code] at h
  | .scope _, hl, s, k, r, h => by simp [code] at h
  | .goto _, hl, s, k, r, h => by simp [code] at h
  | .refuse _, hl, s, k, r, h => by simp [code] at h

end Go.Proofs.YtanhlbdcjonaoaaGreatDoor.Sx

/- The evaluator, part F: calls. -/
set_option linter.unusedVariables false
set_option linter.unusedSimpArgs false
namespace Go.Proofs.YtanhlbdcjonaoaaGreatDoor.Sx
open Go
variable {P : Program} {R : Type}

def AObj.ltN (n : Nat) (o : AObj) : Bool := o.names.all fun m => Nat.blt m n

theorem all_append_names {f : Nat → Bool} {a b : List Nat} : (a ++ b).all f = true ↔ a.all f = true ∧ b.all f = true := by simp [List.all_append]

mutual
theorem avoid_lt {D : Nat → Bool} : ∀ (v : AV), (v.names.all fun m => !D m) = true → Avoid D v
  | .bool b, _ => .bool _ _
  | .int k n, _ => .int _ _ _
  | .str s, _ => .str _ _
  | .nilptr, _ => .nilptr _
  | .nilslice, _ => .nilslice _
  | .nilfunc, _ => .nilfunc _
  | .niliface, _ => .niliface _
  | .gptr g off, _ => fun _ _ e => e
  | .bad, _ => fun _ _ e => by simp [den] at e
  | .ptr nm off, h => .ptr (by simpa [AV.names] using h)
  | .slice nm off l c, h => .slice (by simpa [AV.names] using h)
  | .vec nm l, h => .vec (by simpa [AV.names] using h)
  | .dsl nm l, h => .dsl (by simpa [AV.names] using h)
  | .dptr nm l, h => .dptr (by simpa [AV.names] using h)
  | .agg cs, h => .agg (avoidL_lt cs h)
  | .tuple cs, h => .tuple (avoidL_lt cs h)
  | .func f as cs, h => by
    obtain ⟨h1, h2⟩ := all_append_names.1 h
    intro E x e
    simp only [den] at e ⊢
    split at e
    · rename_i xs ys hx hy
      rw [avoidL_lt as h1 E xs hx, avoidL_lt cs h2 E ys hy]; exact e
    · cases e
  | .iface t v, h => by
    intro E x e
    simp only [den, Option.map_eq_some_iff] at e ⊢
    obtain ⟨y, hy, rfl⟩ := e
    exact ⟨y, avoid_lt v h E y hy, rfl⟩
theorem avoidL_lt {D : Nat → Bool} : ∀ (vs : List AV), ((namesL vs).all fun m => !D m) = true → AvoidL D vs
  | [], _ => .nil D
  | v :: vs, h => by
    obtain ⟨h1, h2⟩ := all_append_names.1 h
    exact .cons (avoid_lt v h1) (avoidL_lt vs h2)
end
theorem avoidO_lt {D : Nat → Bool} (o : AObj) (h : (o.names.all fun m => !D m) = true) : AvoidO D o := by
  cases o with
  | cells cs t => exact .cells (avoidL_lt _ h)
  | vec cs t sz => exact .vec (avoidL_lt _ h)
  | ro off cs => exact .ro (avoidL_lt _ h)
  | flat m cs => exact .flat (avoidL_lt _ h)
  | iter s p => exact .iter _ _ _
  | shut cs t sz => exact .shut (avoidL_lt _ h)
  | dead => exact .dead _

/-- The values of the results, and what must hold. -/
def resP (P : Program) (s : PState) : List ResultVar → Option (Bool × List AV)
  | [] => some (true, [])
  | .tmp t :: rs =>
    match (s.slots[t]?).join, resP P s rs with
    | some v, some (b, vs) => some (b, v :: vs)
    | _, _ => none
  | .cell a t :: rs =>
    match (s.slots[a]?).join with
    | some (.ptr nm off) =>
      match lookP s.mem nm with
      | some (.raw o) =>
        match loadA P {} t off o, o.known, P.underlying t, resP P s rs with
        | some r, some (o0, cs), some d, some (b, vs) => some (Nat.ble o0 off && (if isAggD d then Nat.ble (off - o0 + P.cellsOf t) cs.length else true) && b, r.val :: vs)
        | _, _, _, _ => none
      | _ => none
    | _ => none

theorem resP_sound {s : PState} : ∀ (rs : List ResultVar) (b : Bool) (vs : List AV), resP P s rs = some (b, vs) → b = true → ∃ ob, resA P s.toA rs [] = some (ob, vs) ∧ AllP ob
  | [], b, vs, h, _ => by simp [resP] at h; obtain ⟨_, rfl⟩ := h; exact ⟨[], rfl, trivial⟩
  | .tmp t :: rs, b, vs, h, hb => by
    simp only [resP] at h
    split at h
    · rename_i v b' vs' h1 h2
      cases h
      obtain ⟨ob, k1, k2⟩ := resP_sound rs _ _ h2 hb
      have h1 : (s.toA.slots[t]?).join = some v := h1
      exact ⟨ob, by simp only [resA, h1, List.tail_nil, k1], k2⟩
    · cases h
  | .cell a t :: rs, b, vs, h, hb => by
    simp only [resP] at h
    split at h
    · rename_i nm off h1
      split at h
      · rename_i o hl
        split at h
        · rename_i q o0 cs d b' vs' h3 h4 h5 h6
          cases h
          simp only [Bool.and_eq_true] at hb
          obtain ⟨ob, k1, k2⟩ := resP_sound rs b' vs' h6 hb.2
          have hm : s.toA.mem[nm]? = some (some o) := by
            simp only [lookP, Option.join_eq_some_iff] at hl
            simp only [PState.toA, memA_get, hl, Option.map_some, PObj.toA]
          have h1 : (s.toA.slots[a]?).join = some (.ptr nm off) := h1
          refine ⟨q.obl ++ ob, by simp only [resA, h1, hm, List.headD_nil, h3, List.tail_nil, k1], allP_append.2 ⟨?_, k2⟩⟩
          simp only [loadA, h4, h5] at h3
          obtain ⟨⟨b1, b2⟩, _⟩ := hb
          rw [bleT] at b1
          split at h3
          · rename_i hd
            rw [if_pos hd, bleT] at b2
            cases h3; exact ⟨b1, b2, trivial⟩
          · split at h3
            · cases h3; exact ⟨b1, trivial⟩
            · cases h3
        · cases h
      · cases h
    · cases h

def resSlots : List ResultVar → List Nat
  | [] => []
  | .tmp t :: rs => t :: resSlots rs
  | .cell a _ :: rs => a :: resSlots rs

def PObj.ltN (n : Nat) : PObj → Bool
  | .raw o => o.ltN n
  | _ => true
theorem namesL_ints (k : IntKind) : ∀ (l : List Int), namesL (ints k l) = []
  | [] => rfl
  | a :: l => by show (AV.int k a).names ++ namesL (ints k l) = []; rw [namesL_ints k l]; rfl
theorem namesL_u8s : ∀ (l : List UInt8), namesL (u8s l) = []
  | [] => rfl
  | a :: l => by show (AV.int .u8 (a.toNat : Int)).names ++ namesL (u8s l) = []; rw [namesL_u8s l]; rfl
theorem PObj.ltN_toA (n : Nat) (p : PObj) : p.ltN n = p.toA.ltN n := by
  cases p <;> simp [PObj.ltN, PObj.toA, AObj.ltN, AObj.names, namesL_ints, namesL_u8s]
/-- May the objects of a state be told behind the call? -/
def postB (npre n : Nat) : Nat → List PObj → Bool
  | _, [] => true
  | i, p :: ps => (match p.toA with
      | .dead => Nat.blt i npre
      | o => (Nat.blt i npre || o.mine) && p.ltN n) && postB npre n (i + 1) ps

def finB (npre : Nat) : List PObj → List PObj → Bool
  | p :: pre, q :: post => (!p.toA.owned || q.toA.owned || !q.toA.live) && finB npre pre post
  | _, _ => true

def unSome : List (Option PObj) → Option (List PObj)
  | some o :: m => (unSome m).map (o :: ·)
  | _ => some []

theorem sameO_refl (o : AObj) : sameO o o := by cases o <;> first | rfl | exact Fits.refl _

theorem postA_of {D : Nat → Bool} {npre n : Nat} {m : List (Option PObj)} (hD : ∀ i, Nat.blt i n = true → D i = false) : ∀ (ps : List PObj) (i : Nat), (∀ j p, ps[j]? = some p → m[i + j]? = some (some p)) → postB npre n i ps = true →
    ∃ ob, postA D (memA m) npre i (ps.map PObj.toA) = some ob ∧ AllP ob
  | [], i, _, _ => ⟨[], rfl, trivial⟩
  | p :: ps, i, hm, hb => by
    simp only [postB, PObj.ltN_toA, Bool.and_eq_true] at hb
    obtain ⟨hb1, hb2⟩ := hb
    obtain ⟨ob, h1, h2⟩ := postA_of hD ps (i + 1) (fun j q hq => by have := hm (j + 1) q (by simpa using hq); rwa [show i + (j + 1) = i + 1 + j by omega] at this) hb2
    have h0 : (memA m)[i]? = some (some p.toA) := by
      have := hm 0 p rfl
      rw [Nat.add_zero] at this
      rw [memA_get, this]; rfl
    simp only [List.map_cons]
    by_cases hd : p.toA = .dead
    · rw [hd] at hb1 h0 ⊢
      simp only [bltT] at hb1
      exact ⟨ob, by simp only [postA, h0, if_pos hb1, h1], h2⟩
    · have hb1' : (Nat.blt i npre || p.toA.mine) = true ∧ p.toA.ltN n = true := by
        generalize p.toA = o at hb1 hd
        cases o <;> first | exact absurd rfl hd | simpa [Bool.and_eq_true] using hb1
      have hav : AvoidO D p.toA := avoidO_lt _ (by
        have := hb1'.2
        simp only [AObj.ltN] at this
        refine List.all_eq_true.2 fun x hx => ?_
        have := List.all_eq_true.1 this x hx
        simp [hD x this])
      have hc : (decide (i < npre) || p.toA.mine) = true := by
        have := hb1'.1
        simpa [bltT] using this
      have hob : AllP (avoidO D p.toA) := by
        generalize p.toA = o at hav hd
        cases o <;> first | exact absurd rfl hd | exact trivial | exact ⟨hav, trivial⟩
      refine ⟨sameO p.toA p.toA :: (avoidO D p.toA ++ ob), ?_, sameO_refl _, allP_append.2 ⟨hob, h2⟩⟩
      generalize p.toA = o at *
      cases o <;> first | exact absurd rfl hd | (simp only [postA, h0]; rw [if_pos (by simpa using hc), h1]; rfl)

/-- The end of a call: its results, and what is left of its objects. -/
def finP (P : Program) (fn : Func) (npre : Nat) (pre : List PObj) (k : AV → List PObj → Option R) (ex : Ex) (s : PState) : Option R :=
  match ex with
  | .exit _ => none
  | _ =>
    match resP P s fn.results.toList with
    | none => none
    | some (_, vs) =>
      let r1 := reach s.mem 1000 (List.range npre ++ namesL vs) []
      let keep := fun i => hasN (resSlots fn.results.toList) i
      match compact npre 0 (reach s.mem 1000 (r1 ++ slotNames keep 0 s.slots) []) keep s with
      | none => none
      | some t =>
        match resP P t fn.results.toList, unSome t.mem with
        | some (b, vs'), some os =>
          let post := os.take r1.length
          if Nat.ble npre post.length && postB npre post.length 0 post && finB npre pre post && ((one vs').names.all fun m => Nat.blt m post.length) then bcond b (forceV (one vs') fun v => forcePL post fun post => k v post) none else none
        | _, _ => none

theorem unSome_get : ∀ (m : List (Option PObj)) (os : List PObj), unSome m = some os → ∀ (j : Nat) (p : PObj), os[j]? = some p → m[j]? = some (some p)
  | [], os, h, j, p, hj => by simp [unSome] at h; subst h; simp at hj
  | none :: m, os, h, j, p, hj => by simp [unSome] at h; subst h; simp at hj
  | some o :: m, os, h, j, p, hj => by
    simp only [unSome, Option.map_eq_some_iff] at h
    obtain ⟨os', h', rfl⟩ := h
    cases j with
    | zero => simp at hj; subst hj; rfl
    | succ j => simpa using unSome_get m os' h' j p (by simpa using hj)

theorem finB_all : ∀ (pre post : List PObj) (n : Nat), finB n pre post = true → (((pre.map PObj.toA).zip (post.map PObj.toA)).all fun p => !p.1.owned || p.2.owned || !p.2.live) = true
  | [], _, _, _ => by simp
  | _ :: _, [], _, _ => by simp
  | p :: pre, q :: post, n, h => by
    simp only [finB, Bool.and_eq_true] at h
    simp only [List.map_cons, List.zip_cons_cons, List.all_cons, Bool.and_eq_true]
    exact ⟨h.1, finB_all pre post n h.2⟩

def PObj.lentP : PObj → PObj
  | .raw o => .raw o.lent
  | o => o
theorem lentP_toA (o : PObj) : o.lentP.toA = o.toA.lent := by cases o <;> rfl
def startP (ntmps : Nat) (args : List AV) (pre : List PObj) (NF : Nat) : PState :=
  ⟨args.map some ++ List.replicate (ntmps - args.length) none, pre.map (fun o => some o.lentP) ++ List.replicate NF none⟩
theorem startP_toA (ntmps : Nat) (args : List AV) (pre : List PObj) (NF : Nat) : (startP ntmps args pre NF).toA = start ntmps args (pre.map PObj.toA) NF := by
  simp only [startP, PState.toA, start, memA, List.map_append, List.map_map, List.map_replicate, Option.map_none]
  congr 2
  apply List.map_congr_left
  intro x _
  simp [lentP_toA]

theorem callFunc_enter {f : FuncId} {fn : Func} (hf : P.funcs[f]? = some fn) (hb : fn.body.isSome = true) (hn : (fn.name == "runtime.NumGoroutine") = false) : ∀ args w, (callFunc f args).run P w = .ok (.enter f args) w := by
  intro args w
  have hb' : fn.body.isNone = false := by cases h : fn.body with | none => rw [h] at hb; cases hb | some b => rfl
  simp only [callFunc, Sem.run_bind, run_program, Result.andThen_ok, hf, hn, hb', Bool.false_eq_true, if_false, Sem.run_pure]

/-- WHAT IS EVALUATED OF A CALL IS ITS CONTRACT. -/
theorem fin_sound {f : FuncId} {fn : Func} {body : Code} {args : List AV} {pre : List PObj} {NF : Nat} {ex : Ex} {s : PState} {k : AV → List PObj → Option R} {r : R} (hf : P.funcs[f]? = some fn) (hb : fn.body = some body) (hn : (fn.name == "runtime.NumGoroutine") = false)
    (ht : Tri P body (startP fn.ntmps args pre NF).toA ex s.toA pre.length) (h : finP P fn pre.length pre k ex s = some r) : ∃ res post, Meets P f args (pre.map PObj.toA) res (post.map PObj.toA) ∧ k res post = some r := by
  have key : ∀ {ex : Ex}, (ex = .ret ∨ ex = .normal) → Tri P body (startP fn.ntmps args pre NF).toA ex s.toA pre.length → (match resP P s fn.results.toList with
    | none => none
    | some (_, vs) =>
      let r1 := reach s.mem 1000 (List.range pre.length ++ namesL vs) []
      let keep := fun i => hasN (resSlots fn.results.toList) i
      match compact pre.length 0 (reach s.mem 1000 (r1 ++ slotNames keep 0 s.slots) []) keep s with
      | none => none
      | some t =>
        match resP P t fn.results.toList, unSome t.mem with
        | some (b, vs'), some os =>
          let post := os.take r1.length
          if Nat.ble pre.length post.length && postB pre.length post.length 0 post && finB pre.length pre post && ((one vs').names.all fun m => Nat.blt m post.length) then bcond b (forceV (one vs') fun v => forcePL post fun post => k v post) none else none
        | _, _ => none) = some r → ∃ res post, Meets P f args (pre.map PObj.toA) res (post.map PObj.toA) ∧ k res post = some r := by
    intro ex hex ht h
    split at h
    · cases h
    · rename_i b0 vs hvs
      simp only at h
      split at h
      · cases h
      · rename_i t hc
        split at h
        · rename_i b vs' os hr hos
          generalize hpost : os.take (reach s.mem 1000 (List.range pre.length ++ namesL vs) []).length = post at h
          split at h
          · rename_i hcond
            simp only [Bool.and_eq_true] at hcond
            obtain ⟨⟨⟨c1, c2⟩, c3⟩, c4⟩ := hcond
            cases b with
            | false => cases h
            | true =>
              have h : k (one vs') post = some r := by simpa only [bcond, forceV_eq, forcePL_eq] using h
              refine ⟨one vs', post, ?_, h⟩
              obtain ⟨ob, hren, hob⟩ := compact_ren hc
              have ht' := Tri.ren _ ht hren hob
              rw [startP_toA] at ht'
              obtain ⟨o1, h1, k1⟩ := resP_sound _ _ _ hr rfl
              have hget : ∀ j p, post[j]? = some p → t.mem[0 + j]? = some (some p) := fun j p hj => by
                rw [Nat.zero_add]
                refine unSome_get _ _ hos j p ?_
                rw [← hpost, List.getElem?_take] at hj
                split at hj
                · exact hj
                · cases hj
              have hD : ∀ i, Nat.blt i post.length = true → (fun n => decide ((post.map PObj.toA).length ≤ n)) i = false := fun i hi => by
                rw [bltT] at hi
                simp only [List.length_map, decide_eq_false_iff_not]; omega
              obtain ⟨o2, h2, k2⟩ := postA_of (D := fun n => decide ((post.map PObj.toA).length ≤ n)) (npre := pre.length) (n := post.length) hD post 0 hget c2
              have hav : Avoid (fun n => decide ((post.map PObj.toA).length ≤ n)) (one vs') := avoid_lt _ (List.all_eq_true.2 fun x hx => by
                have := hD x (List.all_eq_true.1 c4 x hx)
                simp only at this
                simp only [this]; rfl)
              have hava : AllP (avoidA (fun n => decide ((post.map PObj.toA).length ≤ n)) (one vs')) := by
                generalize one vs' = v at hav c4
                cases v <;> first
                  | trivial
                  | exact ⟨hav, trivial⟩
                  | (simp only [avoidA]
                     rw [if_neg]
                     · trivial
                     · have := hD _ (by simpa [AV.names] using c4)
                       simp only at this
                       rw [this]; simp)
              have hfin : finA P fn.results.toList [] t.toA pre.length (one vs') (post.map PObj.toA) = some (o1 ++ (one vs' = one vs') :: (avoidA (fun n => decide ((post.map PObj.toA).length ≤ n)) (one vs') ++ o2)) := by
                unfold finA
                have h2' : postA (fun n => decide ((post.map PObj.toA).length ≤ n)) t.toA.mem pre.length 0 (post.map PObj.toA) = some o2 := h2
                simp only [h1]
                rw [h2']
                simp only
                rw [if_pos]
                rw [bleT] at c1
                simpa using c1
              have hlen : (pre.map PObj.toA).length = pre.length := by simp
              rw [← hlen] at ht' hfin
              exact meets_of_tri hf hb (callFunc_enter hf (by rw [hb]; rfl) hn) ht' hex hfin (allP_append.2 ⟨k1, rfl, allP_append.2 ⟨hava, k2⟩⟩) (finB_all pre post _ c3)
          · cases h
        · cases h
  unfold finP at h
  cases ex with
  | exit i => cases h
  | ret => exact key (.inl rfl) ht h
  | normal => exact key (.inr rfl) ht h

/-- What a call answers: by conditions. -/
inductive Ans where
  | ret (res : AV) (post : List PObj)
  | fail
  | br (b : Bool) (x y : Ans)
def Ans.run (k : AV → List PObj → Option R) : Ans → Option R
  | .ret res post => k res post
  | .fail => none
  | .br b x y => bcond b (x.run k) (y.run k)
/-- A check ahead of an answer. -/
def Ans.chk (b : Bool) (x : Ans) : Ans := .br b x .fail
def AnsOK (P : Program) (f : FuncId) (args : List AV) (pre : List PObj) : Ans → Prop
  | .ret res post => Meets P f args (pre.map PObj.toA) res (post.map PObj.toA)
  | .fail => True
  | .br b x y => (b = true → AnsOK P f args pre x) ∧ (b = false → AnsOK P f args pre y)
theorem Ans.sound {f : FuncId} {args : List AV} {pre : List PObj} {k : AV → List PObj → Option R} {r : R} : ∀ (a : Ans), AnsOK P f args pre a → a.run k = some r → ∃ res post, Meets P f args (pre.map PObj.toA) res (post.map PObj.toA) ∧ k res post = some r
  | .ret res post, h, e => ⟨res, post, h, e⟩
  | .fail, h, e => by cases e
  | .br b x y, h, e => by
    cases b with
    | true => exact Ans.sound x (h.1 rfl) e
    | false => exact Ans.sound y (h.2 rfl) e
abbrev Ent := List AV → List PObj → Ans
abbrev Tab := List (FuncId × Ent)
def EntOK (P : Program) (f : FuncId) (e : Ent) : Prop := ∀ args pre, AnsOK P f args pre (e args pre)
def TabOK (P : Program) (T : Tab) : Prop := ∀ f e, T.lookup f = some e → EntOK P f e

def nolv : FuncId → Lv := fun _ => {}
def LvOK (P : Program) (lv : FuncId → Lv) : Prop := ∀ (f : Nat) (fn : Func) body, P.funcs[f]? = some fn → fn.body = some body → ∀ K, LoopsOK P (lv f) K body
theorem nolv_ok : LvOK P nolv := fun f fn body h1 h2 K x hx id e h3 h4 => by cases h4
/-- Calls are answered by the table, or entered. -/
def ent (P : Program) (T : Tab) (lv : FuncId → Lv) (NF m : Nat) : Nat → Hd R
  | 0, f, args, pre, k => match T.lookup f with
    | some e => (e args pre).run k
    | none => none
  | d + 1, f, args, pre, k => match T.lookup f with
    | some e => (e args pre).run k
    | none => match P.funcs[f]? with
      | some fn => match fn.body with
        | some body => code (ent P T lv NF m d) P (lv f) pre.length NF m body (startP fn.ntmps args pre NF) (finP P fn pre.length pre k)
        | none => none
      | none => none

theorem ent_sound {T : Tab} (hT : TabOK P T) (hn : ∀ (f : Nat) (fn : Func), P.funcs[f]? = some fn → (fn.name == "runtime.NumGoroutine") = false) {lv : FuncId → Lv} (hL : LvOK P lv) {NF m : Nat} : ∀ d, HOK P (ent (R := R) P T lv NF m d)
  | 0, f, args, pre, k, r, h => by
    simp only [ent] at h
    split at h
    · rename_i e he
      exact Ans.sound _ (hT f e he args pre) h
    · cases h
  | d + 1, f, args, pre, k, r, h => by
    simp only [ent] at h
    split at h
    · rename_i e he
      exact Ans.sound _ (hT f e he args pre) h
    · split at h
      · rename_i fn hf
        split at h
        · rename_i body hb
          obtain ⟨ex, s, ht, hk⟩ := code_sound (ent_sound hT hn hL d) body (hL f fn body hf hb _) _ _ r h
          exact fin_sound hf hb (hn f fn hf) ht hk
        · cases h
      · cases h

/-- A CONTRACT OUT OF AN EVALUATION. -/
theorem meets_ent {T : Tab} (hT : TabOK P T) (hn : ∀ (f : Nat) (fn : Func), P.funcs[f]? = some fn → (fn.name == "runtime.NumGoroutine") = false) {lv : FuncId → Lv} {NF m d : Nat} {f : FuncId} {args : List AV} {pre : List PObj} {res : AV} {post : List PObj}
    (h : ent (R := AV × List PObj) P T lv NF m d f args pre (fun a b => some (a, b)) = some (res, post)) (hL : LvOK P lv := by exact nolv_ok) : Meets P f args (pre.map PObj.toA) res (post.map PObj.toA) := by
  obtain ⟨a, b, h1, h2⟩ := ent_sound hT hn hL d f args pre _ _ h
  cases h2; exact h1

def pure2 (a : AV) (b : List PObj) : Option (AV × List PObj) := some (a, b)
/-- Answers that are what is evaluated are right. -/
theorem ans_of {f : FuncId} {args : List AV} {pre : List PObj} : ∀ (a : Ans), (∀ res post, a.run pure2 = some (res, post) → Meets P f args (pre.map PObj.toA) res (post.map PObj.toA)) → AnsOK P f args pre a
  | .ret res post, h => h res post rfl
  | .fail, _ => trivial
  | .br b x y, h => ⟨fun e => ans_of x fun res post k => h res post (by rw [Ans.run, e]; exact k), fun e => ans_of y fun res post k => h res post (by rw [Ans.run, e]; exact k)⟩

end Go.Proofs.YtanhlbdcjonaoaaGreatDoor.Sx

/- The symbolic executor, part X: functions of the library without a body of Go. -/
set_option linter.unusedSimpArgs false
set_option linter.unusedVariables false
namespace Go.Proofs.YtanhlbdcjonaoaaGreatDoor.Sx
open Go

/-- Which comes first, cell by cell. -/
def cmpI : List Int → List Int → Int
  | [], [] => 0
  | [], _ :: _ => -1
  | _ :: _, [] => 1
  | a :: as, b :: bs => if a < b then -1 else if b < a then 1 else cmpI as bs

def bytesI (l : List Int) : List UInt8 := l.map fun x => x.toNat.toUInt8

theorem u8_toNat {a : Int} (h : 0 ≤ a ∧ a < 256) : (a.toNat.toUInt8).toNat = a.toNat := by
  have : a.toNat < 256 := by omega
  simp [Nat.toUInt8]
  omega

theorem u8_lt {a b : Int} (ha : 0 ≤ a ∧ a < 256) (hb : 0 ≤ b ∧ b < 256) : (a.toNat.toUInt8 < b.toNat.toUInt8) ↔ a < b := by
  rw [UInt8.lt_iff_toNat_lt, u8_toNat ha, u8_toNat hb]; omega

theorem compareBytes_bytesI : ∀ (xs ys : List Int), (∀ x ∈ xs, 0 ≤ x ∧ x < 256) → (∀ y ∈ ys, 0 ≤ y ∧ y < 256) → Lib.compareBytes (bytesI xs) (bytesI ys) = cmpI xs ys
  | [], [], _, _ => rfl
  | [], _ :: _, _, _ => rfl
  | _ :: _, [], _, _ => rfl
  | a :: as, b :: bs, ha, hb => by
    have h1 := ha a (by simp)
    have h2 := hb b (by simp)
    have ih := compareBytes_bytesI as bs (fun x hx => ha x (by simp [hx])) (fun y hy => hb y (by simp [hy]))
    simp only [bytesI, List.map_cons, Lib.compareBytes, cmpI] at ih ⊢
    simp only [u8_lt h1 h2, u8_lt h2 h1, ih]

theorem run_loadBytes {P : Program} {w : World} {b : Nat} : ∀ (l : List Int) (off : Nat) (acc : ByteArray), (∀ (i : Nat) x, (l.map (Value.int .u8))[i]? = some x → w.cell? ⟨b, off + i, none⟩ = some x) →
    (Extern.Bytes.loadBytes ⟨b, off, none⟩ l.length acc).run P w = .ok ⟨acc.data ++ (bytesI l).toArray⟩ w
  | [], off, acc, h => by simp [Extern.Bytes.loadBytes, bytesI]
  | a :: l, off, acc, h => by
    have h0 := h 0 _ rfl
    simp only [Nat.add_zero] at h0
    have ih := run_loadBytes (P := P) l (off + 1) (acc.push a.toNat.toUInt8) (fun i x hi => by
      have := h (i + 1) x (by simpa using hi)
      rwa [show off + (i + 1) = off + 1 + i by omega] at this)
    simp only [List.length_cons, Extern.Bytes.loadBytes, Sem.run_bind, run_load, h0, Result.andThen_ok, Addr.add_none, ih]
    congr 1
    apply ByteArray.ext
    simp [bytesI]

theorem denL_ints {E : Env} {k : IntKind} (l : List Int) : denL E (ints k l) = some (l.map (Value.int k)) := by
  induction l with
  | nil => rfl
  | cons a l ih => simp only [ints, List.map_cons]; exact denL_cons.2 ⟨_, _, rfl, ih, rfl⟩

theorem PostR.same {E : Env} {w : World} {pre : List AObj} (h : PreR E w pre) : PostR E E w w pre pre :=
  { le := .refl _, cut := h.fresh, objs := h.objs
    made := fun n b c o hn _ hE => by rw [h.fresh n hn] at hE; cases hE
    keep := fun _ _ _ => rfl
    newApart := fun n m o o' b c b' c' hn _ _ _ _ _ hE => by rw [h.fresh n hn] at hE; cases hE
    grow := Nat.le_refl _, os := rfl, tape := rfl, output := rfl }

theorem run_bytesOf {P : Program} {E : Env} {w : World} {nm off cap : Nat} {l : List Int} {x : Value} {b : Nat} {c : Cap} (hx : den E (.slice nm off l.length cap) = some x) (hE : E nm = some (b, c)) (ho : ObjR E w b c (.ro off (ints .u8 l))) :
    (Extern.Bytes.bytesOf x).run P w = .ok ⟨(bytesI l).toArray⟩ w := by
  obtain ⟨b', c', hb, rfl⟩ := slice_den hx
  rw [hE] at hb; cases hb
  obtain ⟨xs, hxs, hw, _⟩ := ho
  have : xs = l.map (Value.int .u8) := by have := hxs.1; rw [denL_ints] at this; exact (Option.some.inj this).symm
  subst this
  have := run_loadBytes (P := P) l off ByteArray.empty hw
  simp only [Extern.Bytes.bytesOf, this]
  congr 1
  apply ByteArray.ext; simp

/-- bytealg.Compare of two slices of bytes. -/
theorem meets_bytealg_compare {P : Program} {f : FuncId} {fn : Func} (hf : P.funcs[f]? = some fn) (h1 : (fn.name == "runtime.NumGoroutine") = false) (h2 : fn.body.isNone = true) (h3 : Extern.findNext fn = none) (h4 : Extern.find fn = some Extern.BytealgCompare.compare)
    (xs ys : List Int) (o1 o2 c1 c2 : Nat) (hx : ∀ x ∈ xs, 0 ≤ x ∧ x < 256) (hy : ∀ y ∈ ys, 0 ≤ y ∧ y < 256) :
    Meets P f [.slice 0 o1 xs.length c1, .slice 1 o2 ys.length c2] [.ro o1 (ints .u8 xs), .ro o2 (ints .u8 ys)] (.int .i64 (cmpI xs ys)) [.ro o1 (ints .u8 xs), .ro o2 (ints .u8 ys)] := by
  intro w E vs hvs hp
  obtain ⟨x, zs, hx1, hz, rfl⟩ := denL_cons.1 hvs
  obtain ⟨y, us, hy1, hu, rfl⟩ := denL_cons.1 hz
  simp only [denL, Option.some.injEq] at hu
  subst hu
  obtain ⟨b1, k1, e1, r1⟩ := hp.objs 0 _ rfl
  obtain ⟨b2, k2, e2, r2⟩ := hp.objs 1 _ rfl
  refine .inr ⟨.int .i64 (cmpI xs ys), w, ?_, E, _, rfl, rfl, PostR.same hp⟩
  rw [run_callFunc_extern hf h1 h2 h3 (e := Extern.BytealgCompare.compare) h4]
  have hc : Extern.BytealgCompare.compare [x, y].toArray = (do pure (goInt (Extern.BytealgCompare.cmp (← Extern.Bytes.bytesOf x) (← Extern.Bytes.bytesOf y))) : Sem Value) := rfl
  rw [hc]
  simp only [Sem.run_bind, run_bytesOf hx1 e1 r1, run_bytesOf hy1 e2 r2, Result.andThen_ok, Sem.run_pure, Lib.cmp_eq, goInt]
  rw [compareBytes_bytesI xs ys hx hy]

/-- abi.NoEscape: the pointer as it is. -/
theorem meets_noescape {P : Program} {f : FuncId} {fn : Func} (hf : P.funcs[f]? = some fn) (h1 : (fn.name == "runtime.NumGoroutine") = false) (h2 : fn.body.isNone = true) (h3 : Extern.findNext fn = none) (h4 : Extern.find fn = some Extern.AbiNoEscape.same) (off : Nat) :
    Meets P f [.ptr 0 off] [.ro 0 []] (.ptr 0 off) [.ro 0 []] := by
  intro w E vs hvs hp
  obtain ⟨x, zs, hx, hz, rfl⟩ := denL_cons.1 hvs
  simp only [denL, Option.some.injEq] at hz
  subst hz
  refine .inr ⟨x, w, ?_, E, x, rfl, hx, PostR.same hp⟩
  rw [run_callFunc_extern hf h1 h2 h3 (e := Extern.AbiNoEscape.same) h4]
  rfl

/-- Any block may be told as one of which nothing is known. -/
theorem fits_any {a : AObj} (r : List Nat) (hk : a.known.isSome = true) (hl : a.live = true) : Fits a (AObj.ren r (.ro 0 [])) := by
  obtain ⟨⟨o0, cs⟩, hk⟩ := Option.isSome_iff_exists.1 hk
  intro E w k c h
  exact ⟨[], ⟨rfl, rfl⟩, fun i x hi => by simp at hi, h.lt hl (by cases a <;> first | rfl | (simp [AObj.known] at hk))⟩

theorem byteI {c : Int} (h : 0 ≤ c ∧ c < 256) : (((UInt8.ofNat c.toNat).toNat : Nat) : Int) = c := by
  have : c.toNat < 256 := by omega
  simp
  omega
theorem u8s_snoc {s : List UInt8} {c : Int} (h : 0 ≤ c ∧ c < 256) : u8s s ++ [AV.int .u8 c] = u8s (s ++ [UInt8.ofNat c.toNat]) := by
  simp only [u8s, List.map_append, List.map_cons, List.map_nil, byteI h]

theorem EqR.to {P : Program} {t : TypeId} {x y : AV} {r r' : Bool} (h : EqR P t x y r) (e : r = r') : EqR P t x y r' := e ▸ h
theorem eqR_ints {P : Program} {t e : TypeId} {n : Nat} {k k' : IntKind} (hu : P.underlying t = some (.array n e)) (he : P.underlying e = some (.int k')) (hc : P.cellsOf e = 1) (xs ys : List Int) (hx : xs.length = n) (hy : ys.length = n) : EqR P t (.agg (ints k xs)) (.agg (ints k ys)) (decide (xs = ys)) := by
  intro E w a b ha hb
  obtain ⟨as, h1, rfl⟩ := denC_agg.1 ha
  obtain ⟨bs, h2, rfl⟩ := denC_agg.1 hb
  have e1 := h1.1
  have e2 := h2.1
  rw [denL_ints] at e1 e2
  cases e1; cases e2
  obtain ⟨i, hi⟩ := underlying_info he
  rw [run_equalIn_array w 9999 _ _ hu hi, hc, List.range_eq_range', eqItems_ints (D := 9998) he xs ys (by omega) n 0 (by omega)]
  rfl

end Go.Proofs.YtanhlbdcjonaoaaGreatDoor.Sx

/- The evaluator, part G: functions without a text of Go. -/
set_option linter.unusedVariables false
set_option linter.unusedSimpArgs false
namespace Go.Proofs.YtanhlbdcjonaoaaGreatDoor.Sx
open Go
variable {P : Program}

theorem TabOK.nil : TabOK P [] := fun f e h => by simp at h
theorem TabOK.cons {T : Tab} {f : FuncId} {e : Ent} (h : EntOK P f e) (k : TabOK P T) : TabOK P ((f, e) :: T) := fun g e' hg => by
  rw [List.lookup_cons] at hg
  split at hg
  · rename_i hb
    have := beq_iff_eq.1 hb
    subst this
    cases hg; exact h
  · exact k g e' hg

/-- abi.NoEscape: the pointer as it is. -/
def eSame : Ent := fun args pre => match args with | [v] => .ret v pre | _ => .fail
theorem eSame_ok {f : FuncId} {fn : Func} (hf : P.funcs[f]? = some fn) (h1 : (fn.name == "runtime.NumGoroutine") = false) (h2 : fn.body.isNone = true) (h3 : Extern.findNext fn = none) (h4 : Extern.find fn = some Extern.AbiNoEscape.same) : EntOK P f eSame := by
  intro args pre
  unfold eSame
  split
  · intro w E vs hvs hp
    obtain ⟨x, zs, hx, hz, rfl⟩ := denL_cons.1 hvs
    simp only [denL, Option.some.injEq] at hz
    subst hz
    refine .inr ⟨x, w, ?_, E, x, rfl, hx, PostR.same hp⟩
    rw [run_callFunc_extern hf h1 h2 h3 (e := Extern.AbiNoEscape.same) h4]
    rfl
  · trivial

/-- bytealg.IndexByteString: where a byte stands first. -/
def eIndexByte : Ent := fun args pre => match args with
  | [.str s, .int .u8 c] => .ret (.int .i64 (Lib.indexByte s c.toNat.toUInt8)) pre
  | _ => .fail
theorem eIndexByte_ok {f : FuncId} {fn : Func} (hf : P.funcs[f]? = some fn) (h1 : (fn.name == "runtime.NumGoroutine") = false) (h2 : fn.body.isNone = true) (h3 : Extern.findNext fn = none) (h4 : Extern.find fn = some Extern.BytealgIndexByte.indexByte) : EntOK P f eIndexByte := by
  intro args pre
  unfold eIndexByte
  split
  · rename_i s c
    intro w E vs hvs hp
    obtain ⟨x, zs, hx, hz, rfl⟩ := denL_cons.1 hvs
    obtain ⟨y, us, hy, hu, rfl⟩ := denL_cons.1 hz
    simp only [denL, Option.some.injEq] at hu
    subst hu
    have hx : x = .string ⟨s.toArray⟩ := by simpa [den] using hx.symm
    have hy : y = .int .u8 c := by simpa [den] using hy.symm
    subst hx; subst hy
    refine .inr ⟨_, w, ?_, E, _, rfl, rfl, PostR.same hp⟩
    rw [run_callFunc_extern hf h1 h2 h3 (e := Extern.BytealgIndexByte.indexByte) h4]
    rw [Lib.run_indexByteString]; rfl
  · trivial

/-- bytealg.CountString: how often a byte is there. -/
def eCount : Ent := fun args pre => match args with
  | [.str s, .int .u8 c] => .ret (.int .i64 (Lib.countByte s c.toNat.toUInt8)) pre
  | _ => .fail
theorem eCount_ok {f : FuncId} {fn : Func} (hf : P.funcs[f]? = some fn) (h1 : (fn.name == "runtime.NumGoroutine") = false) (h2 : fn.body.isNone = true) (h3 : Extern.findNext fn = none) (h4 : Extern.find fn = some Extern.BytealgCount.count) : EntOK P f eCount := by
  intro args pre
  unfold eCount
  split
  · rename_i s c
    intro w E vs hvs hp
    obtain ⟨x, zs, hx, hz, rfl⟩ := denL_cons.1 hvs
    obtain ⟨y, us, hy, hu, rfl⟩ := denL_cons.1 hz
    simp only [denL, Option.some.injEq] at hu
    subst hu
    have hx : x = .string ⟨s.toArray⟩ := by simpa [den] using hx.symm
    have hy : y = .int .u8 c := by simpa [den] using hy.symm
    subst hx; subst hy
    refine .inr ⟨_, w, ?_, E, _, rfl, rfl, PostR.same hp⟩
    rw [run_callFunc_extern hf h1 h2 h3 (e := Extern.BytealgCount.count) h4]
    rw [Lib.run_countString]; rfl
  · trivial

/-- bytealg.MakeNoZero: a new row of bytes, whatever they are. -/
def eMake (e : TypeId) : Ent := fun args pre => match args, pre with
  | [.int .i64 n], [] => .chk (decide (0 ≤ n ∧ n ≤ 281474976710656)) (.ret (.vec 0 n.toNat) [.vecB [] e])
  | _, _ => .fail
theorem eMake_ok {f : FuncId} {fn : Func} {t e : TypeId} (hf : P.funcs[f]? = some fn) (h1 : (fn.name == "runtime.NumGoroutine") = false) (h2 : fn.body.isNone = true) (h3 : Extern.findNext fn = none) (h4 : Extern.find fn = some (Extern.BytealgMakeNoZero.makeNoZero fn.params #[t])) (ht : P.underlying t = some (.slice e)) : EntOK P f (eMake e) := by
  intro args pre
  unfold eMake
  split
  · rename_i n
    refine ⟨fun hb => ?_, fun _ => trivial⟩
    · have hb := of_decide_eq_true hb
      intro w E vs hvs hp
      obtain ⟨x, zs, hx, hz, rfl⟩ := denL_cons.1 hvs
      simp only [denL, Option.some.injEq] at hz
      subst hz
      have hx : x = .int .i64 (n.toNat : Nat) := by
        have : x = .int .i64 n := by simpa [den] using hx.symm
        rw [this]; congr 1; omega
      subst hx
      obtain ⟨cs, hrun, hle, _⟩ := Lib.run_makeNoZero (P := P) w fn.params t e ht n.toNat (by omega)
      have hE : ∀ m, E m = none := fun m => hp.fresh m (Nat.zero_le _)
      refine .inr ⟨.slice (some ⟨w.heap.size, 0, none⟩) n.toNat cs.size, w.drew.drew.alloc (.cells cs e), ?_, E.set 0 (w.heap.size, { n := cs.size }), _, rfl, by simp [den, Env.set_same]; omega, ?_⟩
      · rw [run_callFunc_extern hf h1 h2 h3 (e := Extern.BytealgMakeNoZero.makeNoZero fn.params #[t]) h4, hrun]; rfl
      · have hold : ∀ j : Nat, j < w.heap.size → (w.drew.drew.alloc (.cells cs e)).heap[j]? = w.heap[j]? := fun j hj => by
          show (w.heap.push (.cells cs e))[j]? = _
          rw [Array.getElem?_push, if_neg (by omega)]
        have hnew : (w.drew.drew.alloc (.cells cs e)).heap[w.heap.size]? = some (.cells cs e) := by
          show (w.heap.push (.cells cs e))[w.heap.size]? = _
          simp
        exact {
          le := .set (hE 0)
          cut := fun m hm => by rw [Env.set_other _ _ (by simp at hm; omega)]; exact hE m
          objs := fun m o hm => by
            cases m with
            | succ m => simp at hm
            | zero =>
              simp at hm; subst hm
              exact ⟨_, _, Env.set_same _ _ _, [], cs.toList, ⟨rfl, rfl⟩, ⟨(0, 0), by rw [hnew]; simp, .inl rfl⟩, by simp, rfl, rfl⟩
          made := fun m b c o _ hm hEm ht' => by
            cases m with
            | succ m => simp at hm
            | zero =>
              rw [Env.set_same] at hEm; cases hEm; exact .inl (Nat.le_refl _)
          keep := fun j hj _ => hold j hj
          newApart := fun m m' o o' b c b' c' _ _ hm hm' _ _ _ _ hne => by
            cases m with
            | succ m => simp at hm
            | zero => cases m' with
              | succ m' => simp at hm'
              | zero => exact absurd rfl hne
          grow := by show w.heap.size ≤ (w.heap.push (.cells cs e)).size; simp
          os := rfl, tape := rfl, output := rfl }
  · trivial

end Go.Proofs.YtanhlbdcjonaoaaGreatDoor.Sx
